import Derived.Sort.MapsRangeIn
import Derived.Test.YtfghkjmbbfidoaaGreatDoorShelfY
import Derived.Test.YtfghkjmbbfidoaaGreatDoorDTd
set_option maxRecDepth 100000
set_option maxHeartbeats 0
set_option linter.unusedSimpArgs false
open Go.RowKit Go.Sort
namespace Go.Proofs.YtfghkjmbbfidoaaGreatDoor
theorem jky{e:TypeId}{size base g n cap:Nat}:∀(L:List Value) (o:Nat) (w:World) (xs:List Value),w.ownsRow base e size (so g n cap) n xs->∃ys,(w.setCells g o L).ownsRow base e size (so g n cap) n ys/\ys.take o=xs.take o/\ys.length=xs.length
 |[],o,w,xs,h=>⟨xs,h,rfl,rfl⟩
 |v::L,o,w,xs,h=>by
  obtain⟨ys,h1,h2,h3⟩:=jky L (o+1) _ _ (World.ownsRow.stored h o v).1
  refine⟨ys,h1,?_,by rw[h3,List.length_set]⟩
  have:=congrArg (List.take o) h2
  rw[List.take_take,List.take_take,Nat.min_eq_left (by omega)]at this
  rw[this,List.take_set_of_le (by omega)]
theorem jvo{e:TypeId}{size base g n cap i:Nat}{w:World}{xs:List Value}(h:w.ownsRow base e size (so g n cap) n xs)(hi:i<=n):w.ownsRow base e size (so g i cap) i (xs.take (i*size)):=by
 have hl:i*size<=n*size:=Nat.mul_le_mul_right _ hi
 refine⟨by rw[List.length_take,h.1];omega,?_⟩
 rcases h.2 with⟨e0,_⟩|⟨g',fK,cur,e0,hb,hg,hn,hm,hs,ht⟩
 ·cases e0
 ·injection e0 with e1 e2 e3
  injection e1 with e1
  injection e1 with e1
  subst e1 e3
  exact .inr ⟨g,cap,cur,rfl,hb,hg,by omega,hm,hs,by rw[<- ht,List.take_take,Nat.min_eq_left hl]⟩
structure DelK(F:Nat)(bs:Array Value)(p:EventD->Bool)(base:Nat)(W0:World):Prop where
 enter:∀args w,(callFunc F args).run Tryz.prog w=.ok (.enter F args) w
 call:∀x W,Below base W0 W->Cl F (#[x.v]++bs) W fun e W'=>e=.returned (.bool (!p x))/\Bw W W'
theorem clear_ev(w:World){base g n cap i:Nat}{xs:List Value}(h:w.ownsRow base 59 6 (so g n cap) n xs)(hi:i<n):∃L,∀ty,(Builtin.clear_ #[56] ty #[.slice (some (ad g (i*6))) (n-i) (cap-i)]).run Tryz.prog w=.ok (.tuple #[]) (w.setCells g (i*6) L):=by
 have hz:(Builtin.zeroCells (Value.agg #[iv 0,.string ⟨#[]⟩,.string ⟨#[]⟩,iv 0,iv 0,iv 0]).cells (n-i)).toList.length=(n-i)*6:=by simp[Builtin.zeroCells,Value.cells]
 have ei:=run_storeCells_cells (P:=Tryz.prog) g (i*6) (Builtin.zeroCells (Value.agg #[iv 0,.string ⟨#[]⟩,.string ⟨#[]⟩,iv 0,iv 0,iv 0]).cells (n-i)).toList 0 w (fun j hj=>by
   rw[hz]at hj
   have h1:i*6+0+j<n*6:=by omega
   obtain⟨u,hu⟩:∃u,xs[i*6+0+j]? =some u:=⟨_,lgg (by rw[h.1];exact h1)⟩
   rw[h.cellAt _ h1,hu];rfl) (fun j _=>h.frozenAt _) (fun v hv=>by
   simp[Builtin.zeroCells,Value.cells]at hv
   obtain⟨k,_,rfl⟩:=hv
   rcases(show k%6=0\/k%6=1\/k%6=2\/k%6=3\/k%6=4\/k%6=5 by omega)with e|e|e|e|e|e<;>simp[e,Value.oneCell'])
 obtain⟨m,hm⟩:∃m,n-i=m+1:=⟨n-i-1,by omega⟩
 refine⟨(Builtin.zeroCells (Value.agg #[iv 0,.string ⟨#[]⟩,.string ⟨#[]⟩,iv 0,iv 0,iv 0]).cells (n-i)).toList,fun ty=>?_⟩
 rw[Nat.add_zero]at ei
 rw[hm]at ei ⊢
 simp[Builtin.clear_,run_underlying Tryz.underlying56,juf,ei]
theorem flat_takeE(C:List EventD)(i:Nat)(hi:i<=C.length):(C.map EventD.cs).flatten.take (i*6)=((C.take i).map EventD.cs).flatten:=by
 conv=>lhs;rw[<- List.take_append_drop i C,lma,List.flatten_append]
 rw[List.take_left']
 rw[ja6 jbl,llm,List.length_take,Nat.min_eq_left hi]
structure KeptE(p:EventD->Bool)(P C:List EventD)(i j:Nat):Prop where
 len:C.length=P.length
 low:C.take i=(P.take j).filter p
 high:∀m,j<=m->C[m]? =P[m]?
def allN(p:EventD->Bool)(P:List EventD)(k:Nat):Prop:=∀j x,j<k->P[j]? =some x->p x=true
theorem keptE_start{p:EventD->Bool}{P:List EventD}{k:Nat}{x:EventD}(hx:P[k]? =some x)(hr:p x=false)(h:allN p P k):KeptE p P P k (k+1):=by
 refine⟨rfl,?_,fun _ _=>rfl⟩
 rw[List.take_add_one,hx,List.filter_append]
 simp only[Option.toList_some,List.filter_cons,hr,List.filter_nil]
 rw[List.filter_eq_self.mpr fun y hy=>?_]
 ·simp
 ·obtain⟨j,hj⟩:=lgo hy
  have hl:=(lgs hj).1
  rw[List.length_take]at hl
  rw[List.getElem?_take,if_pos (by omega)]at hj
  exact h j y (by omega) hj
theorem KeptE.skip{p:EventD->Bool}{P C:List EventD}{i j:Nat}{x:EventD}(h:KeptE p P C i j)(hx:P[j]? =some x)(hr:p x=false):KeptE p P C i (j+1):=by
 refine⟨h.len,?_,fun m hm=>h.high m (by omega)⟩
 rw[List.take_add_one,hx,List.filter_append,h.low]
 simp[hr]
theorem KeptE.keep{p:EventD->Bool}{P C:List EventD}{i j:Nat}{x:EventD}(h:KeptE p P C i j)(hx:P[j]? =some x)(hr:p x=true)(eF:i<j):KeptE p P (C.set i x) (i+1) (j+1):=by
 have hl:=(lgs hx).1
 have FY:i<C.length:=by rw[h.len];omega
 refine⟨by rw[List.length_set];exact h.len,?_,fun m hm=>?_⟩
 ·rw[List.take_add_one,List.getElem?_set_self FY,List.take_set_of_le (nlr _),h.low,List.take_add_one,hx,List.filter_append]
  simp[hr]
 ·rw[List.getElem?_set_ne (by omega)]
  exact h.high m (by omega)
theorem ev_index{F:Nat}{bs:Array Value}{p:EventD->Bool}(P:List EventD)(a:Option Addr)(cap:Nat)(W:World)(hA:Za W a 6 (P.map EventD.cs))(hK:DelK F bs p W.heap.size W)(hl:P.length<=1000):
  Cl 152 #[.slice a P.length cap,.func (.func F) #[] bs] W fun e W'=>Bw W W'/\((e=.returned (iv (-1))/\allN p P P.length)\/∃k x,e=.returned (iv ((k:Nat):Int))/\P[k]? =some x/\p x=false/\allN p P k):=by
 obtain⟨n,hn⟩:=qeb P.length
 have HN:=hid hn
 have fi:=hK.enter
 rw[hn]at hl ⊢
 clear hn
 unfold Cl;go_in
 go_wp2
 go_loopw [5,8] (fun _ t wr=>∃k:Nat,t=iv k/\k<=n/\Hid (allN p P k)/\Bw W wr) (fun _ t _=>n-(intOf t).toNat)
 case atStart=>exact⟨0,rfl,by omega,fun j x hj=>by omega,brf _ _⟩
 case round=>
  obtain⟨k,rfl,hk,HK,hB⟩:=hrel
  by_cases hlt:k<n
  ·obtain⟨x,hx⟩:∃x,P[k]? =some x:=⟨_,lgg (by rw[HN.out];exact hlt)⟩
   obtain⟨b,o,rfl,hc⟩:=(hA.below hB).at (i:=k) (r:=x.cs) (by rw[lgm,hx];rfl)
   have c0:wr.cell? (ad b (o+k*6))=some (iv x.id):=hc 0 _ rfl
   have c1:wr.cell? (ad b (o+k*6+1))=some (.string x.name):=hc 1 _ rfl
   have c2:wr.cell? (ad b (o+k*6+2))=some (.string x.zone):=hc 2 _ rfl
   have c3:wr.cell? (ad b (o+k*6+3))=some (iv x.wall):=hc 3 _ rfl
   have c4:wr.cell? (ad b (o+k*6+4))=some (iv x.gap):=hc 4 _ rfl
   have c5:wr.cell? (ad b (o+k*6+5))=some (iv x.fold):=hc 5 _ rfl
   have hP:=hK.call x wr hB
   simp only[EventD.v]at hP
   have HX:=hid hx
   clear hc hx hA
   cases hr:p x
   ·rw[hr]at hP
    have HR:=hid hr
    clear hr
    go_wp2_with fail
    refine hP.mono ?_
    rintro e w1 ⟨rfl,hb1⟩
    have aj:=qtr hB hb1
    go_wp2
    go_ret
    exact⟨aj,.inr ⟨k,x,rfl,HX.out,HR.out,HK.out⟩⟩
   ·rw[hr]at hP
    have ed:Hid (allN p P (k+1)):=fun j y hj hy=>by
     by_cases e:j=k
     ·subst e;rw[HX.out]at hy;obtain rfl:=osi hy;exact hr
     ·exact HK.out j y (by omega) hy
    clear hr
    go_wp2_with fail
    refine hP.mono ?_
    rintro e w1 ⟨rfl,hb1⟩
    have aj:=qtr hB hb1
    go_wp2
    go_roundw
    case rel=>exact⟨k+1,by go_num,by omega,ed,aj⟩
    case measure=>simp[intOf];omega
  ·obtain rfl:k=n:=by omega
   go_wp2
   go_ret
   exact⟨hB,.inl ⟨rfl,HK.out⟩⟩
theorem ev_delete{F:Nat}{bs:Array Value}{p:EventD->Bool}(P:List EventD)(base:Nat)(v:Value)(W:World)(hO:Jb W base v P)(hK:DelK F bs p base W)(hb:base<=W.heap.size)(hl:P.length<=1000):
  Cl 101 #[v,.func (.func F) #[] bs] W fun e W'=>∃x,e=.returned x/\Jb W' base x (P.filter p)/\Below base W W':=by
 obtain⟨a,cap,rfl,hs⟩:=hO.seq
 have hI:=ev_index P a cap W hs ⟨hK.enter,fun x w' h=>hK.call x w' (h.mono hb)⟩ hl
 obtain⟨n,hn⟩:=qeb P.length
 have HN:=hid hn
 have fi:=hK.enter
 have HC:=fun x w' h=>hK.call x w' h
 rw[hn]at hI hO hl ⊢
 clear hn hs hK
 unfold Cl;go_in
 go_wp2_with fail
 refine hI.mono ?_
 rintro e w1 ⟨hb1,hr⟩
 have aj:Below base W w1:=hb1.mono hb
 have dW:=hO.below hb1
 have bU:=hb1.size
 clear hI hO hb1
 rcases hr with⟨rfl,ak⟩|⟨k,x,rfl,hx,hr,hk⟩
 ·have HF:Hid ((P.filter p)=P):=List.filter_eq_self.mpr fun y hy=>by
   obtain⟨j,hj⟩:=lgo hy
   exact ak j y (by have:=(lgs hj).1;have:=HN.out;omega) hj
  clear ak
  go_wp2
  go_ret
  exact⟨_,rfl,by rw[HF.out];exact dW,aj⟩
 have Vw:k<n:=by have:=(lgs hx).1;have:=HN.out;omega
 obtain⟨g,hg⟩:∃g,a=some (ad g 0):=by
  rcases dW.2 with⟨_,h0⟩|⟨g,_,_,h0,_⟩
  ·have:=HN.out;omega
  ·injection h0 with h0 _ _;exact⟨g,h0⟩
 subst hg
 have jG:=(World.ownsRow.lt dW g rfl).1
 have HS:Hid (KeptE p P P k (k+1)):=keptE_start hx hr hk
 have az:((k:Int)== -1)=false:=by simp
 clear hx hr hk
 go_wp2
 go_loopw [5,6,7] (fun s5 s6 _ wr=>∃(i j:Nat) (C:List EventD),s5=iv i/\s6=iv j/\j<=n/\i<j/\Hid (KeptE p P C i j)/\Hid (Jb wr base (so g n cap) C)/\Below base W wr) (fun _ s6 _ _=>n-(intOf s6).toNat)
 case atStart=>exact⟨k,k+1,P,rfl,by go_num,by omega,by omega,HS,dW,aj⟩
 case round=>
  obtain⟨wa,dS⟩:=qea wr
  subst dS
  obtain⟨i,j,C,rfl,rfl,Vv,eF,HK,HO,hB⟩:=hrel
  have Oz:C.length=n:=by rw[HK.out.len];exact HN.out
  have hsz:=hB.size
  clear HS dW aj bU
  by_cases hlt:j<n
  ·have j1:(j:Int)<(n:Int):=by omega
   obtain⟨y,hy⟩:∃y,P[j]? =some y:=⟨_,lgg (by rw[HN.out];exact hlt)⟩
   have hO:=HO.out
   obtain⟨c0,c1,c2,c3,c4,c5⟩:=jf0 hO (i:=j) (x:=y) (by rw[HK.out.high j (nlr _)];exact hy)
   have b1:=qal wa (.cells #[iv y.id,.string y.name,.string y.zone,iv y.wall,iv y.gap,iv y.fold] 59)
   have dW:=hO.below b1
   have E:=Zh.new wa [iv y.id,.string y.name,.string y.zone,iv y.wall,iv y.gap,iv y.fold] 59
   have e0:=E.c 0 rfl
   have e1:=E.c 1 rfl
   have e2:=E.c 2 rfl
   have e3:=E.c 3 rfl
   have e4:=E.c 4 rfl
   have e5:=E.c 5 rfl
   have ck:Below base W (wa.alloc (.cells #[iv y.id,.string y.name,.string y.zone,iv y.wall,iv y.gap,iv y.fold] 59)):=hB.trans (b1.mono (by omega))
   have hP:=HC y _ ck
   simp only[EventD.v]at hP
   have Tw:=hid dW
   clear hO dW b1 HO
   cases hr:p y
   ·rw[hr]at hP
    have ed:Hid (KeptE p P C i (j+1)):=HK.out.skip hy hr
    clear hy hr HK
    go_wp2_with fail
    refine hP.mono ?_
    rintro e w2 ⟨rfl,ac⟩
    have sX:Hid (Jb w2 base (so g n cap) C):=Tw.out.below ac
    have an:=ck.trans (ac.mono (by have:=ck.size;omega))
    clear ac Tw hP e0 e1 e2 e3 e4 e5 E
    go_wp2
    go_roundw
    case rel=>exact⟨i,j+1,C,rfl,by go_num,by omega,by omega,ed,sX,an⟩
    case measure=>simp[intOf];omega
   ·rw[hr]at hP
    have ed:Hid (KeptE p P (C.set i y) (i+1) (j+1)):=HK.out.keep hy hr eF
    clear hy hr HK
    go_wp2_with fail
    refine hP.mono ?_
    rintro e w2 ⟨rfl,ac⟩
    have aW:=Tw.out.below ac
    have sX:Hid (Jb ((((((w2.setCell (ad g (i*6)) (iv y.id)).setCell (ad g (i*6+1)) (.string y.name)).setCell (ad g (i*6+2)) (.string y.zone)).setCell (ad g (i*6+3)) (iv y.wall)).setCell (ad g (i*6+4)) (iv y.gap)).setCell (ad g (i*6+5)) (iv y.fold)) base (so g n cap) (C.set i y)):=aW.put Oz.symm i (by omega) y
    have an:=ck.trans (ac.mono (by have:=ck.size;omega))
    have ax:Below base W ((((((w2.setCell (ad g (i*6)) (iv y.id)).setCell (ad g (i*6+1)) (.string y.name)).setCell (ad g (i*6+2)) (.string y.zone)).setCell (ad g (i*6+3)) (iv y.wall)).setCell (ad g (i*6+4)) (iv y.gap)).setCell (ad g (i*6+5)) (iv y.fold)):=jev jG y.cs (i*6) W w2 an
    have E2:=E.below ac
    have f0:=E2.c 0 rfl
    have f1:=E2.c 1 rfl
    have f2:=E2.c 2 rfl
    have f3:=E2.c 3 rfl
    have f4:=E2.c 4 rfl
    have f5:=E2.c 5 rfl
    have dE:w2.ownsRow base 59 6 (so g n cap) n (C.map EventD.cs).flatten:=by have h:=aW;unfold Jb at h;rw[Oz]at h;exact h
    obtain⟨yi,wi⟩:∃z,C[i]? =some z:=⟨_,lgg (by omega)⟩
    obtain⟨z0,z1,z2,z3,z4,z5⟩:=jf0 aW wi
    have q0:=dE.frozenAt (i*6)
    have q1:=dE.frozenAt (i*6+1)
    have q2:=dE.frozenAt (i*6+2)
    have q3:=dE.frozenAt (i*6+3)
    have q4:=dE.frozenAt (i*6+4)
    have q5:=dE.frozenAt (i*6+5)
    have i2:(0:Int)<=(i:Int):=by omega
    have i3:(i:Int)<(n:Int):=by omega
    clear ac Tw hP e0 e1 e2 e3 e4 e5 E E2 aW dE an wi
    go_wp2
    go_roundw
    case rel=>exact⟨i+1,j+1,C.set i y,by go_num,by go_num,by omega,by omega,ed,sX,ax⟩
    case measure=>simp[intOf];omega
  ·obtain rfl:j=n:=by omega
   have dE:wa.ownsRow base 59 6 (so g j cap) j (C.map EventD.cs).flatten:=by have h:=HO.out;unfold Jb at h;rw[Oz]at h;exact h
   obtain⟨L,uQ⟩:=clear_ev wa dE eF
   have eh:j<=cap:=by
    rcases dE.2 with⟨h0,_⟩|⟨_,_,_,h0,_,_,h5,_⟩
    ·cases h0
    ·injection h0 with _ _ h0;omega
   have HF:Hid (Jb (wa.setCells g (i*6) L) base (so g i cap) (P.filter p)):=by
    obtain⟨ys,k1,k2,k3⟩:=jky L (i*6) wa _ dE
    have k4:=jvo k1 (Nat.le_of_lt eF)
    have e1:C.take i=P.filter p:=by rw[HK.out.low,List.take_of_length_le (by rw[HN.out];exact nlr _)]
    have e2:(P.filter p).length=i:=by rw[<- e1,List.length_take];omega
    rw[k2,flat_takeE _ _ (by omega),e1]at k4
    show World.ownsRow _ _ _ _ _ _ _
    rw[e2]
    exact k4
   have po:Below base W (wa.setCells g (i*6) L):=jev jG L _ W wa hB
   have i2:(0:Int)<=(i:Int):=by omega
   have i3:(i:Int)<=(j:Int):=by omega
   have i4:(i:Int)<=(cap:Int):=by omega
   clear dE HO HK
   go_wp2
   go_ret
   exact⟨_,rfl,HF.out,po⟩
section
open Go.RowKit Go.ChangeMaps Go.MapKept Go.WideMaps Go.Sort
def waitB(c:Int)(e:EventD):Bool:= !decide (e.id<c)
theorem follow_del(bx bb base:Nat)(cur:Int)(W0:World)(c0:W0.cell? (ad bx 0)=some (.pointer (some (ad bb 0))))(c7:W0.cell? (ad bb 7)=some (iv cur))(h1:bx<base)(h2:bb<base):DelK 103 #[.pointer (some (ad bx 0))] (waitB cur) base W0 where
 enter:=fun _ _=>by kernel_rfl
 call:=fun x W hB=>by
  have d0:=(hB.cell (p:=(ad bx 0)) h1).trans c0
  have d7:=(hB.cell (p:=(ad bb 7)) h2).trans c7
  obtain⟨id,name,zone,wall,gap,fold⟩:=x
  simp only[EventD.v,waitB,Bool.not_not]
  have hb:=qal W (.cells #[iv id,.string name,.string zone,iv wall,iv gap,iv fold] 59)
  have g0:=jaa hb d0
  have g7:=jaa hb d7
  have e0:=(Zh.new W [iv id,.string name,.string zone,iv wall,iv gap,iv fold] 59).c 0 rfl
  have HB:=hidP hb
  clear hb d0 d7 c0 c7 hB
  show Cl 103 #[.agg #[iv id,.string name,.string zone,iv wall,iv gap,iv fold],.pointer (some (ad bx 0))] W _
  unfold Cl;go_in
  go_wp2_with fail
  go_quiet (fail)
  go_wp2
  go_ret
  exact⟨rfl,HB.out.trans ⟨rfl,rfl,rfl,nlr _,fun _ _=>rfl⟩⟩
def bkL(s:StoreD)(a1 a2 a3 a4 a5 a6 a8 a9:Option Addr)(c1 c2 c3 c4 c5 c6 c8 c9:Nat)(lb nm wm:Nat)(a b c d e f:Option Addr)(ca cb cc cd ce cf:Nat):List Value:=[iv s.tx,.slice a1 s.now.rules.length c1,.slice a2 s.now.zones.length c2,.slice a3 s.now.links.length c3,.slice a4 s.was.rules.length c4,.slice a5 s.was.zones.length c5,.slice a6 s.was.links.length c6,iv s.cur,.slice a8 s.vs.length c8,.slice a9 s.ix.length c9,.map (some lb),.slice a s.now.rules.length ca,.slice b s.now.zones.length cb,.slice c s.now.links.length cc,.map (some nm),.slice d s.was.rules.length cd,.slice e s.was.zones.length ce,.slice f s.was.links.length cf,.map (some wm)]
theorem Zl.var{w0 w:World}{s:StoreD}{a1 a2 a3 a4 a5 a6 a8 a9:Option Addr}{c1 c2 c3 c4 c5 c6 c8 c9:Nat}{bb lb nm wm nn wn:Nat}{a b c d e f:Option Addr}{ca cb cc cd ce cf:Nat}(h:Zl (bkX s a1 a2 a3 a4 a5 a6 a8 a9 c1 c2 c3 c4 c5 c6 c8 c9) w0 w s bb lb nm wm nn wn a b c d e f ca cb cc cd ce cf):Zh w bb (bkL s a1 a2 a3 a4 a5 a6 a8 a9 c1 c2 c3 c4 c5 c6 c8 c9 lb nm wm a b c d e f ca cb cc cd ce cf):=fun i u hu=>match i,hu with
 |0,hu=>by cases hu;exact⟨(show w.cell? ⟨bb,0,none⟩=some (.int .i64 s.tx)from h.more (0,_) (by simp[bkX])),h.free 0⟩
 |1,hu=>by cases hu;exact⟨(show w.cell? ⟨bb,1,none⟩=some (.slice a1 s.now.rules.length c1)from h.more (1,_) (by simp[bkX])),h.free 1⟩
 |2,hu=>by cases hu;exact⟨(show w.cell? ⟨bb,2,none⟩=some (.slice a2 s.now.zones.length c2)from h.more (2,_) (by simp[bkX])),h.free 2⟩
 |3,hu=>by cases hu;exact⟨(show w.cell? ⟨bb,3,none⟩=some (.slice a3 s.now.links.length c3)from h.more (3,_) (by simp[bkX])),h.free 3⟩
 |4,hu=>by cases hu;exact⟨(show w.cell? ⟨bb,4,none⟩=some (.slice a4 s.was.rules.length c4)from h.more (4,_) (by simp[bkX])),h.free 4⟩
 |5,hu=>by cases hu;exact⟨(show w.cell? ⟨bb,5,none⟩=some (.slice a5 s.was.zones.length c5)from h.more (5,_) (by simp[bkX])),h.free 5⟩
 |6,hu=>by cases hu;exact⟨(show w.cell? ⟨bb,6,none⟩=some (.slice a6 s.was.links.length c6)from h.more (6,_) (by simp[bkX])),h.free 6⟩
 |7,hu=>by cases hu;exact⟨(show w.cell? ⟨bb,7,none⟩=some (.int .i64 s.cur)from h.cur),h.free 7⟩
 |8,hu=>by cases hu;exact⟨(show w.cell? ⟨bb,8,none⟩=some (.slice a8 s.vs.length c8)from h.more (8,_) (by simp[bkX])),h.free 8⟩
 |9,hu=>by cases hu;exact⟨(show w.cell? ⟨bb,9,none⟩=some (.slice a9 s.ix.length c9)from h.more (9,_) (by simp[bkX])),h.free 9⟩
 |10,hu=>by cases hu;exact⟨(show w.cell? ⟨bb,10,none⟩=some (.map (some lb))from h.live),h.free 10⟩
 |11,hu=>by cases hu;exact⟨(show w.cell? ⟨bb,11,none⟩=some (.slice a s.now.rules.length ca)from h.n0),h.free 11⟩
 |12,hu=>by cases hu;exact⟨(show w.cell? ⟨bb,12,none⟩=some (.slice b s.now.zones.length cb)from h.n1),h.free 12⟩
 |13,hu=>by cases hu;exact⟨(show w.cell? ⟨bb,13,none⟩=some (.slice c s.now.links.length cc)from h.n2),h.free 13⟩
 |14,hu=>by cases hu;exact⟨(show w.cell? ⟨bb,14,none⟩=some (.map (some nm))from h.n3),h.free 14⟩
 |15,hu=>by cases hu;exact⟨(show w.cell? ⟨bb,15,none⟩=some (.slice d s.was.rules.length cd)from h.w1),h.free 15⟩
 |16,hu=>by cases hu;exact⟨(show w.cell? ⟨bb,16,none⟩=some (.slice e s.was.zones.length ce)from h.w2),h.free 16⟩
 |17,hu=>by cases hu;exact⟨(show w.cell? ⟨bb,17,none⟩=some (.slice f s.was.links.length cf)from h.w3),h.free 17⟩
 |18,hu=>by cases hu;exact⟨(show w.cell? ⟨bb,18,none⟩=some (.map (some wm))from h.w4),h.free 18⟩
 |n+19,hu=>by simp[bkL]at hu
theorem Zh.book{w0 w:World}{s:StoreD}{a1 a2 a3 a4 a5 a6 a8 a9:Option Addr}{c1 c2 c3 c4 c5 c6 c8 c9:Nat}{bb lb nm wm nn wn:Nat}{a b c d e f:Option Addr}{ca cb cc cd ce cf:Nat}(K:Zh w bb (bkL s a1 a2 a3 a4 a5 a6 a8 a9 c1 c2 c3 c4 c5 c6 c8 c9 lb nm wm a b c d e f ca cb cc cd ce cf))(hb:Bw w0 w)(hn:Zi w nm nn s.now)(hw:Zi w wm wn s.was)(h1:nm≠wm)(h2:w0.heap.size<=nm)(h3:w0.heap.size<=wm)(h4:∃cs,w.heap[bb]? =some (.cells cs 125 (0,0))):Zl (bkX s a1 a2 a3 a4 a5 a6 a8 a9 c1 c2 c3 c4 c5 c6 c8 c9) w0 w s bb lb nm wm nn wn a b c d e f ca cb cc cd ce cf:=
 ⟨hb,K.c 7 rfl,K.c 10 rfl,K.c 11 rfl,K.c 12 rfl,K.c 13 rfl,K.c 14 rfl,K.c 15 rfl,K.c 16 rfl,K.c 17 rfl,K.c 18 rfl,hn,hw,h1,h2,h3,fun p hp=>by
  simp only[bkX,List.mem_cons,List.not_mem_nil,or_false]at hp
  rcases hp with rfl|rfl|rfl|rfl|rfl|rfl|rfl|rfl|rfl
  ·exact K.c 0 rfl
  ·exact K.c 1 rfl
  ·exact K.c 2 rfl
  ·exact K.c 3 rfl
  ·exact K.c 4 rfl
  ·exact K.c 5 rfl
  ·exact K.c 6 rfl
  ·exact K.c 8 rfl
  ·exact K.c 9 rfl,h4⟩
theorem grown_step{w w1:World}{g:Nat}(h:w.grownBy w1 (some g))(j:Nat)(v:Value):w.grownBy (w1.setCell (ad g j) v) (some g):=h.andThen (jem w1 g j v) (fun _ h=>.inr h)
def setS(s:StoreD):StoreD:=⟨s.tx,s.now,⟨[],[],[]⟩,0,s.vs,s.ix⟩
structure SetP(w0 w:World)(s:StoreD)(a1 a2 a3 a4 a5 a6 a8 a9:Option Addr)(c1 c2 c3 c4 c5 c6 c8 c9:Nat)(bb lb nm nn wn:Nat)(a b c:Option Addr)(ca cb cc:Nat)(w':World):Prop where
 gr:w.grownBy w' (some bb)
 ex:∃Tz,w.heap.size<=Tz/\Zl (bkX (setS s) a1 a2 a3 none none none a8 a9 c1 c2 c3 0 0 0 c8 c9) w0 w' (setS s) bb lb nm Tz nn wn a b c none none none ca cb cc 0 0 0
theorem settle_var{w:World}{s:StoreD}{a1 a2 a3 a4 a5 a6 a8 a9:Option Addr}{c1 c2 c3 c4 c5 c6 c8 c9:Nat}{bb lb nm wm M:Nat}{a b c d e f:Option Addr}{ca cb cc cd ce cf:Nat}(K2:Zh w bb ((bkL s a1 a2 a3 a4 a5 a6 a8 a9 c1 c2 c3 c4 c5 c6 c8 c9 lb nm wm a b c d e f ca cb cc cd ce cf).set 7 (iv 0))):Zh (((((((w.setCell (ad bb 4) nS).setCell (ad bb 5) nS).setCell (ad bb 6) nS).setCell (ad bb 15) nS).setCell (ad bb 16) nS).setCell (ad bb 17) nS).setCell (ad bb 18) (.map (some M))) bb (bkL (setS s) a1 a2 a3 none none none a8 a9 c1 c2 c3 0 0 0 c8 c9 lb nm M a b c none none none ca cb cc 0 0 0):=(Zh.set (j:=18) (Zh.set (j:=17) (Zh.set (j:=16) (Zh.set (j:=15) (Zh.set (j:=6) (Zh.set (j:=5) (Zh.set (j:=4) K2 nS) nS) nS) nS) nS) nS) (.map (some M)))
theorem settle_at{w0 w w2:World}{s:StoreD}{a1 a2 a3 a4 a5 a6 a8 a9:Option Addr}{c1 c2 c3 c4 c5 c6 c8 c9:Nat}{bb lb nm wm nn wn M:Nat}{a b c d e f:Option Addr}{ca cb cc cd ce cf:Nat}(h:Zl (bkX s a1 a2 a3 a4 a5 a6 a8 a9 c1 c2 c3 c4 c5 c6 c8 c9) w0 w s bb lb nm wm nn wn a b c d e f ca cb cc cd ce cf)(hb:w0.heap.size<=bb)(b2:Below w.heap.size (w.setCell (ad bb 7) (iv 0)) w2)(hc:Zi w2 M 0 ⟨[],[],[]⟩)(hM:w.heap.size<=M):SetP w0 w s a1 a2 a3 a4 a5 a6 a8 a9 c1 c2 c3 c4 c5 c6 c8 c9 bb lb nm nn wn a b c ca cb cc (((((((w2.setCell (ad bb 4) nS).setCell (ad bb 5) nS).setCell (ad bb 6) nS).setCell (ad bb 15) nS).setCell (ad bb 16) nS).setCell (ad bb 17) nS).setCell (ad bb 18) (.map (some M))):=by
 have hlt:bb<w.heap.size:=qbl h.cur
 have g1:=jem w bb 7 (iv 0)
 have n1:=h.ne_n
 have hl:=h.bel.size
 have fH:=h.cn.lt
 have Ty:Below (w.setCell (ad bb 7) (iv 0)).heap.size (w.setCell (ad bb 7) (iv 0)) w2:=by rw[World.size_setCell];exact b2
 have az:∀cs,w.heap[bb]? ≠some (.cells cs 164 (0,0)):=fun cs hc=>by
  obtain⟨ds,hd⟩:=h.blk
  rw[hd]at hc
  simp at hc
 have T2:∃cs,w2.heap[bb]? =some (.cells cs 125 (0,0)):=by
  obtain⟨cs,qx⟩:=set_blk (j:=7) (v:=iv 0) h.blk
  exact⟨cs,(b2.block bb hlt).trans qx⟩
 have mG:∀cs,w2.heap[bb]? ≠some (.cells cs 164 (0,0)):=fun cs hc=>by
  obtain⟨ds,hd⟩:=T2
  rw[hd]at hc
  simp at hc
 have G:=(grown_step (grown_step (grown_step (grown_step (grown_step (grown_step (jem w2 bb 4 nS) 5 nS) 6 nS) 15 nS) 16 nS) 17 nS) 18 (.map (some M)))
 have b1:=h.bel.setCell (p:=(ad bb 7)) hb (iv 0)
 refine⟨(g1.andThen (jap Ty) (fun _ h=>by cases h)).andThen G (fun _ h=>.inr h),M,hM,Zh.book (settle_var ((h.var.set (j:=7) (iv 0)).below Ty)) ((((((((b1.trans (Ty.mono (by simpa using hl))).setCell (p:=(ad bb 4)) hb nS).setCell (p:=(ad bb 5)) hb nS).setCell (p:=(ad bb 6)) hb nS).setCell (p:=(ad bb 15)) hb nS).setCell (p:=(ad bb 16)) hb nS).setCell (p:=(ad bb 17)) hb nS).setCell (p:=(ad bb 18)) hb (.map (some M))) (((h.cn.grown g1 (Ne.symm n1) az).below Ty).grown G (Ne.symm n1) mG) ((hc.grown G (by omega) mG).mono (Nat.zero_le _)) (by omega) h.bn (by omega) (set_blk (j:=18) (v:=.map (some M)) (set_blk (j:=17) (v:=nS) (set_blk (j:=16) (v:=nS) (set_blk (j:=15) (v:=nS) (set_blk (j:=6) (v:=nS) (set_blk (j:=5) (v:=nS) (set_blk (j:=4) (v:=nS) T2)))))))⟩
end
section
open Go.RowKit Go.ChangeMaps Go.MapKept Go.WideMaps Go.Sort
theorem impl_settle{w0 w:World}{s:StoreD}{a1 a2 a3 a4 a5 a6 a8 a9:Option Addr}{c1 c2 c3 c4 c5 c6 c8 c9:Nat}{bb lb nm wm nn wn:Nat}{a b c d e f:Option Addr}{ca cb cc cd ce cf:Nat}(h:Zl (bkX s a1 a2 a3 a4 a5 a6 a8 a9 c1 c2 c3 c4 c5 c6 c8 c9) w0 w s bb lb nm wm nn wn a b c d e f ca cb cc cd ce cf)(hb:w0.heap.size<=bb):
  Cl 105 #[.pointer (some (ad bb 0))] w fun q w'=>q=.returned (.tuple #[])/\SetP w0 w s a1 a2 a3 a4 a5 a6 a8 a9 c1 c2 c3 c4 c5 c6 c8 c9 bb lb nm nn wn a b c ca cb cc w':=by
 have K:=h.var
 have x7:w.cell? (ad bb 7)=some (iv s.cur):=K.c 7 rfl
 have f7:=h.free 7
 have HH:=hidP h
 have hlt:bb<w.heap.size:=qbl h.cur
 have K1:=K.set (j:=7) (iv 0)
 have bU:(w.setCell (ad bb 7) (iv 0)).heap.size=w.heap.size:=by simp
 have iH:=fun W=>jmf ⟨[],[],[]⟩ none none none 0 0 0 W
 simp only[List.length_nil]at iH
 clear K h
 have HA:Hid (∀w2 M,Below w.heap.size (w.setCell (ad bb 7) (iv 0)) w2->Zi w2 M 0 ⟨[],[],[]⟩->w.heap.size<=M->SetP w0 w s a1 a2 a3 a4 a5 a6 a8 a9 c1 c2 c3 c4 c5 c6 c8 c9 bb lb nm nn wn a b c ca cb cc (((((((w2.setCell (ad bb 4) nS).setCell (ad bb 5) nS).setCell (ad bb 6) nS).setCell (ad bb 15) nS).setCell (ad bb 16) nS).setCell (ad bb 17) nS).setCell (ad bb 18) (.map (some M)))):=fun w2 M b2 hc hM=>settle_at HH.out hb b2 hc hM
 clear HH
 unfold Cl;go_in
 go_wp2_with fail
 generalize w.setCell (ad bb 7) (iv 0)=W1 at *
 refine(iH W1).mono ?_
 rintro q w2 hP
 have hq:=hP.ex
 subst hq
 have K2:=K1.below hP.bel
 have y4:w2.cell? (ad bb 4)=some (.slice a4 s.was.rules.length c4):=K2.c 4 rfl
 have z4:w2.frozen? (ad bb 4)=false:=K2.f 4 (u:=.slice a4 s.was.rules.length c4) rfl
 have y5:w2.cell? (ad bb 5)=some (.slice a5 s.was.zones.length c5):=K2.c 5 rfl
 have z5:w2.frozen? (ad bb 5)=false:=K2.f 5 (u:=.slice a5 s.was.zones.length c5) rfl
 have y6:w2.cell? (ad bb 6)=some (.slice a6 s.was.links.length c6):=K2.c 6 rfl
 have z6:w2.frozen? (ad bb 6)=false:=K2.f 6 (u:=.slice a6 s.was.links.length c6) rfl
 have y15:w2.cell? (ad bb 15)=some (.slice d s.was.rules.length cd):=K2.c 15 rfl
 have z15:w2.frozen? (ad bb 15)=false:=K2.f 15 (u:=.slice d s.was.rules.length cd) rfl
 have y16:w2.cell? (ad bb 16)=some (.slice e s.was.zones.length ce):=K2.c 16 rfl
 have z16:w2.frozen? (ad bb 16)=false:=K2.f 16 (u:=.slice e s.was.zones.length ce) rfl
 have y17:w2.cell? (ad bb 17)=some (.slice f s.was.links.length cf):=K2.c 17 rfl
 have z17:w2.frozen? (ad bb 17)=false:=K2.f 17 (u:=.slice f s.was.links.length cf) rfl
 have y18:w2.cell? (ad bb 18)=some (.map (some wm)):=K2.c 18 rfl
 have z18:w2.frozen? (ad bb 18)=false:=K2.f 18 (u:=.map (some wm)) rfl
 have HP:=hidP (HA.out w2 (w.heap.size+1+1) (by rw[<- bU];exact hP.bel) (by rw[<- bU];exact hP.cache) (by omega))
 clear K1 K2 iH HA hP x7 f7
 go_wp2
 exact bodyPost_end (results_none Tryz.results105 _ _ _) rfl ⟨rfl,HP.out⟩
end
section
open Go.RowKit Go.Shelf Go.ChangeMaps Go.MapKept
attribute [local go_sem] Oper.semAt_some
structure GotE(f:Int->Option EventD)(left:Lit->Bool)(P:List EventD):Prop where
 nd:P.Nodup
 mem:∀x,x∈P↔f x.id=some x/\left (.int .i64 x.id)=false
theorem GotE.step{f:Int->Option EventD}{left:Lit->Bool}{P:List EventD}{c:EventD}(h:GotE f left P)(hc:f c.id=some c)(hl:left (.int .i64 c.id)=true):GotE f (fun z=>left z&& !Lit.sameKey z (.int .i64 c.id)) (P++[c]):=by
 refine⟨List.nodup_append.mpr ⟨h.nd,by simp,fun x hx y hy e=>?_⟩,fun x=>?_⟩
 ·simp only[List.mem_singleton]at hy
  subst hy e
  rw[((h.mem x).mp hx).2]at hl
  cases hl
 ·rw[List.mem_append,List.mem_singleton,h.mem]
  constructor
  ·rintro(⟨h1,h2⟩|rfl)
   ·exact⟨h1,by simp only[h2,Bool.false_and]⟩
   ·have hk:WideAt.IsKeyLit (.int .i64 x.id):=trivial
    exact⟨hc,by rw[WideAt.sameKey_self hk];simp⟩
  ·rintro⟨h1,h2⟩
   rcases jit h2 with h|h
   ·exact .inl ⟨h1,h⟩
   ·rw[h,hc]at h1
    exact .inr (osi h1).symm
theorem GotE.done{f:Int->Option EventD}{left:Lit->Bool}{P L:List EventD}(h:GotE f left P)(hl:∀kl,left kl=false)(hT:Tells f L)(hL:L.Pairwise fun x y=>x.id<y.id):P.Perm L:=
 (List.perm_ext_iff_of_nodup h.nd (hL.imp fun {x y} gI e=>by subst e;omega)).mpr fun x=>by rw[h.mem,hT.mem,hl];simp
theorem values1_in (F:Fence) (n:Nat) (h8:F.fn 191) (lI:F.round=none) (hn:1<=n) (l Bm b nn:Nat) (f:Int->Option EventD) (L:List EventD) (J Jx:List EventD->World->Prop)
  (hY:∀bK x W,J bK W->bK.length<L.length->YieldAt F (n-1) Tryz.prog l #[x.v] W fun e W'=>
   (e=.returned (.bool true)/\J (bK++[x]) W'/\KeepsWalks W W')\/(e=.returned (.bool false)/\Jx (bK++[x]) W'))
  (W:World) (hJ:AbidesFrom W.heap.size J) (hm:W.cell? (ad Bm 0)=some (.map (some b))) (hM:Zm W b nn f) (hT:Tells f L) (hL:L.Pairwise fun x y=>x.id<y.id) (h0:J [] W):
  CallsIn F n Tryz.prog 191 #[.func (.yield l) #[] #[],.pointer (some (ad Bm 0))] W fun e W'=>(∃v,e=.returned v)/\
   ((∃xs,xs.Perm L/\J xs W')\/(∃bK,True/\Jx bK W')):=by
 obtain⟨D,ai,hD⟩:=hM.own
 have hsz:Maps.size D=L.length:=jia ai hD hT hL
 have HT:=hid hT
 have HD:=hid hD
 have HU:=hid hL
 clear hT hD hL hM
 refine callsIn_of_wp Tryz.func191 rfl h8 ?_ lI
 simp only[Tryz.ntmps191,List.size_toArray,List.length_cons,List.length_nil,Nat.reduceAdd,Nat.reduceSub,Array.replicate_succ,Array.replicate_zero,List.push_toArray,List.append_toArray,List.nil_append,List.cons_append]
 gi_wp2_with (first
  |(gi_at_range;refine wpListIn_range_own _ rfl _ 116 rfl 2 59 (Maps.int_keyed keyT) mapT jcy b nn D rfl ai ?_;intro w0 kK kC aG)
  |gi_in)
 go_frame
 gi_loopw [4] (fun _ wr=>∃(left:Lit->Bool) (jw:Nat) (ps:List EventD),wr.ranges Tryz.prog 2 jcy b W.heap.size nn D left jw/\ps.length+jw<=L.length/\Hid (GotE f left ps)/\J ps wr)
  (fun _ wr=>wr.rangeLeft b W.heap.size)
 case atStart=>
  exact⟨_,_,[],kK,by rw[hsz];simp,⟨List.nodup_nil,fun x=>⟨fun h=>by simp at h,fun⟨h1,h2⟩=>by rw[jk0 HD.out h1]at h2;cases h2⟩⟩,hJ [] W w0 none h0 kC (fun r e=>by cases e)⟩
 case round=>
  obtain⟨left,jw,ps,oH,qx,HG,Fi⟩:=hrel
  gi_wp2_with (first
   |(gi_at_next;refine wpListIn_next_ranges _ rfl _ rfl 2 (Maps.int_keyed keyT) jcy (Value.int .i64) (fun c:EventD=>Value.agg #[.int .i64 c.id,.string c.name,.string c.zone,.int .i64 c.wall,.int .i64 c.gap,.int .i64 c.fold]) (fun key kl bS=>by(obtain⟨x,rfl,_⟩:=Maps.keyOf_int_inv keyT bS;exact⟨x,rfl⟩)) (fun v y hv=>by(obtain⟨c,rfl,_⟩:=jde hv;exact⟨c,rfl⟩)) b W.heap.size nn D left jw rfl oH ?_ ?_)
   |gi_in)
  ·intro _ hl0
   gi_wp2
   go_end0
   exact⟨⟨_,rfl⟩,.inl ⟨_,HG.out.done hl0 HT.out HU.out,Fi⟩⟩
  ·intro x c kl y ys w2 TF bS i8 ej bE hrg2 hlt bR dR fi
   have HF:Hid (f x=some c/\c.id=x/\kl=.int .i64 x):=by
    obtain⟨x',ex,rfl,_⟩:=Maps.keyOf_int_inv keyT bS
    cases ex
    obtain⟨c',ec,ez⟩:=jde ej
    simp only[Prod.mk.injEq]at ez
    obtain⟨rfl,_⟩:=ez
    have:c'=c:=by cases c;cases c';simp only[EventD.v,Value.agg.injEq]at ec;simp_all
    subst this
    have h1:=jv8 HD.out bE
    exact⟨h1,HT.out.id _ _ h1,rfl⟩
   have Vi:J ps w2:=hJ _ wr w2 (some W.heap.size) Fi bR (fun r e=>by cases e;exact⟨nlr _,oH.iter_walk⟩)
   have kM:=hrg2.alloc (.cells #[iv c.id,.string c.name,.string c.zone,iv c.wall,iv c.gap,iv c.fold] 59)
   have qR:=hY ps c (w2.alloc (.cells #[iv c.id,.string c.name,.string c.zone,iv c.wall,iv c.gap,iv c.fold] 59)) (jph hJ Vi _) (by omega)
   obtain⟨e0,e1,e2,e3,e4,e5⟩:(fun z:World=>z.cell? (ad w2.heap.size 0)=some (iv c.id)/\z.cell? (ad w2.heap.size 1)=some (.string c.name)/\z.cell? (ad w2.heap.size 2)=some (.string c.zone)/\z.cell? (ad w2.heap.size 3)=some (iv c.wall)/\z.cell? (ad w2.heap.size 4)=some (iv c.gap)/\z.cell? (ad w2.heap.size 5)=some (iv c.fold)) (w2.alloc (.cells #[iv c.id,.string c.name,.string c.zone,iv c.wall,iv c.gap,iv c.fold] 59)):=by simp[go_sem]
   simp only[EventD.v]at qR
   obtain⟨fn,tmps,assign,body,hy,hR⟩:=qR
   have jK:Hid (GotE f (fun z=>left z&& !Lit.sameKey z kl) (ps++[c])):=by
    have h:=HF.out
    rw[h.2.2, <- h.2.1]
    exact HG.out.step (by rw[h.2.1];exact h.1) (by rw[h.2.1, <- h.2.2];exact i8)
   clear dR ej bE bS hY
   gi_wp2
   refine hR.mono ?_
   rintro e W3 (⟨rfl,Bm,oC⟩|⟨rfl,pL⟩)
   ·gi_wp2
    have mM:=kM.of_walks oC
    go_roundw
    case rel=>exact⟨_,TF,ps++[c],mM,by simp;omega,jK,Bm⟩
    case measure=>rw[mM.left_eq,oH.left_eq];exact hlt
   ·gi_wp2
    refine bpr (results_none rfl _ _ _) rfl ?_
    exact⟨⟨_,rfl⟩,.inr ⟨_,trivial,pL⟩⟩
theorem values_stops(F:Fence)(n:Nat)(h8:F.fn 191)(lI:F.round=none)(hn:1<=n)(Bm b nn:Nat)(f:Int->Option EventD)(L:List EventD)(w:World)(gu:Bm<w.heap.size)(hm:w.cell? (ad Bm 0)=some (.map (some b)))(hM:Zm w b nn f)(hT:Tells f L)(hL:L.Pairwise fun x y=>x.id<y.id):
  SeqStopsK F n Tryz.prog 191 #[.pointer (some (ad Bm 0))] (fun x:EventD=>#[x.v]) KeepsWalks (fun xs=>xs.Perm L) (fun _=>True) L.length w:=fun l J Jx W hW hJ _ hY h0=>
 values1_in F n h8 lI hn l Bm b nn f L J Jx hY W hJ ((hW.cell (p:=(ad Bm 0)) gu).trans hm) (hM.below hW) hT hL h0
theorem impl_values(b:Nat)(w:World):
  Cl 154 #[.map (some b)] w fun e w'=>e=.returned (.func (.func 191) #[] #[.pointer (some (ad w.heap.size 0))])/\w'=w.alloc (.cells #[.map (some b)] 116):=by
 unfold Cl;go_in
 go_wp2
 go_ret
 exact⟨rfl,rfl⟩
end
section
open Go.RowKit Go.Sort Go.Lib
theorem cmp_ids(x y:EventD)(w:World):Cl 155 #[x.v,y.v] w fun e w'=>e=.returned (iv (cmpI x.id y.id))/\∃n os,w'=Go.Sort.grow (w.drewN n) os:=by
 obtain⟨x0,x1,x2,x3,x4,x5⟩:=x
 obtain⟨y0,y1,y2,y3,y4,y5⟩:=y
 simp only[EventD.v]
 have h1:=fun x y w=>jq5 x y w
 unfold Cl;go_in
 go_wp2_with fail
 refine(h1 _ _ _).mono ?_
 rintro e w3 ⟨rfl,rfl⟩
 go_wp2
 go_ret
 exact⟨rfl,0,#[_,_],by rw[Go.Sort.alloc_eq_grow,Go.Sort.alloc_eq_grow,Go.Sort.grow_grow];rfl⟩
abbrev InE(P:List EventD):={ x:EventD // x∈P }
def cfE{P:List EventD}(x y:InE P):Int:=cmpI x.1.id y.1.id
theorem ltE{P:List EventD}(x y:InE P):ltOf cfE x y=decide (x.1.id<y.1.id):=by
 unfold ltOf cfE cmpI
 by_cases h:x.1.id<y.1.id
 ·simp[h]
 ·by_cases h2:y.1.id<x.1.id<;>simp[h,h2]
theorem swoE(P:List EventD):SWO (ltOf (cfE (P:=P))) where
 irrefl x:=by rw[ltE];simp
 trans x y z h1 h2:=by rw[ltE]at *;simp only[decide_eq_true_eq]at *;omega
 ntrans x y z h1 h2:=by rw[ltE]at *;simp only[decide_eq_false_iff_not]at *;omega
theorem sortE(P:List EventD)(base:Nat)(v:Value)(w:World)(hO:Jb w base v P)(hd:∀x∈P,∀y∈P,x.id=y.id->x=y)(hl:P.length<=1048576):
  Cl 190 #[v,.func (.func 155) #[] #[]] w fun e w'=>e=.returned (.tuple #[])/\∃Q:List EventD,Q.Perm P/\(Q.Pairwise fun x y=>x.id<=y.id)/\Jb w' base v Q/\w.grownBy w' v.ownBlock:=by
 rcases hO.2 with⟨rfl,h0⟩|⟨g,cap,cur,rfl,hb,hh,_⟩
 ·have hP:P=[]:=List.length_eq_zero_iff.mp h0
  subst hP
  refine(Tryz.sortFuncY_none none 0 _ w).mono ?_
  rintro e w' ⟨rfl,rfl⟩
  exact⟨rfl,[],.refl _,.nil,hO,⟨rfl,rfl,rfl,nlr _,fun _ _ _=>rfl⟩⟩
 ·cases hP:P with
  |nil=>
   subst hP
   refine(Tryz.sortFuncY_none (some (ad g 0)) cap _ w).mono ?_
   rintro e w' ⟨rfl,rfl⟩
   exact⟨rfl,[],.refl _,.nil,hO,⟨rfl,rfl,rfl,nlr _,fun _ _ _=>rfl⟩⟩
  |cons z zs=>
  rw[<- hP]
  haveI:Inhabited (InE P):=⟨⟨z,by rw[hP];exact List.mem_cons_self ..⟩⟩
  have hk:∀x:InE P,x.1.cs.length=6:=fun _=>rfl
  have hm:P.attach.map (fun x:InE P=>x.1.cs)=P.map EventD.cs:=by rw[List.attach_map_val]
  have hA:w.ownsRow base 59 6 (so g P.length cap) P.attach.length (P.attach.map fun x:InE P=>x.1.cs).flatten:=by rw[hm,List.length_attach];exact hO
  obtain⟨hH,hlt,_⟩:=j3p hk (by decide) hA
  have hC:=Tryz.sortFuncY_total 6 Tryz.isAgg59 Tryz.sizeOf59 (fun x:InE P=>x.1.cs) hk (fun x v hv=>by simp[EventD.cs]at hv;rcases hv with rfl|rfl|rfl|rfl|rfl|rfl<;>rfl) cfE (swoE P) 155 #[] g 0 cap P.attach.toArray w (fun _ _=>by kernel_rfl) (fun _ _ _ _ x y=>cmp_ids x.1 y.1 _) hH hlt (by simp;omega) (fun x y h1 h2=>by
   rw[ltE]at h1 h2
   simp only[decide_eq_false_iff_not]at h1 h2
   exact Subtype.ext (hd _ x.2 _ y.2 (by omega)))
  refine Calls.mono (by simpa using hC) ?_
  rintro e w' ⟨rfl,q,os,rfl⟩
  generalize hQ:(P.attach.toArray.toList.mergeSort fun x y=> !(ltOf cfE) y x)=Q
  have hp:Q.Perm P.attach:=by rw[<- hQ];exact List.mergeSort_perm _ _
  have hs:Q.Pairwise fun x y=>x.1.id<=y.1.id:=by
   rw[<- hQ]
   refine(List.pairwise_mergeSort (fun a b c h1 h2=>?_) (fun a b=>?_) _).imp fun {x y} h=>?_
   ·rw[ltE]at *;simp at *;omega
   ·rw[ltE,ltE];simp;omega
   ·rw[ltE]at h;simpa using h
  have h:=putG hk (by decide) (q:=q) (os:=os) (Q:=Q) hA hp.length_eq
  refine⟨rfl,Q.map Subtype.val,?_,List.pairwise_map.mpr hs,?_,h.2⟩
  ·have:=hp.map Subtype.val
   rwa [List.attach_map_subtype_val]at this
  ·show World.ownsRow _ _ _ _ _ _ _
   rw[llm,List.map_map]
   exact h.1
theorem perm_up{L P Q:List EventD}(hL:L.Pairwise fun x y=>x.id<y.id)(hP:P.Perm L)(hQ:Q.Perm P)(hs:Q.Pairwise fun x y=>x.id<=y.id):Q=L:=by
 have hq:=hQ.trans hP
 have hn:Q.Pairwise fun x y=>x.id≠y.id:=hq.symm.pairwise (hL.imp fun {x y} h=>by omega) fun {x y} h=>Ne.symm h
 exact up_one ((List.pairwise_and_iff.mpr ⟨hs,hn⟩).imp fun {x y} h=>by have:=h.1;have:=h.2;omega) hL fun e=>hq.mem_iff
theorem perm_ids{L P:List EventD}(hL:L.Pairwise fun x y=>x.id<y.id)(hP:P.Perm L):∀x∈P,∀y∈P,x.id=y.id->x=y:=fun x hx y hy e=>by
 obtain⟨i,hi⟩:=lgo (hP.mem_iff.mp hx)
 obtain⟨j,hj⟩:=lgo (hP.mem_iff.mp hy)
 obtain⟨Vb,FY⟩:=lgs hi
 obtain⟨C9,Ca⟩:=lgs hj
 have hp:=List.pairwise_iff_getElem.mp hL
 rcases Nat.lt_trichotomy i j with h|h|h
 ·have:=hp i j Vb C9 h;rw[FY,Ca]at this;omega
 ·subst h;rw[<- FY, <- Ca]
 ·have:=hp j i C9 Vb h;rw[FY,Ca]at this;omega
end
section
open Go.RowKit Go.Shelf
attribute [local go_sem] Oper.semAt_some
theorem appendSeq_in(F:Fence)(n:Nat)(Vh:F.fn 222)(h8:F.fn 191)(lI:F.round=none)(hn:3<=n)(Bm b nn:Nat)(f:Int->Option EventD)(L:List EventD)(w:World)(gu:Bm<w.heap.size)(hm:w.cell? (ad Bm 0)=some (.map (some b)))(hM:Zm w b nn f)(hT:Tells f L)(hL:L.Pairwise fun x y=>x.id<y.id)(hl:L.length<=1048576):
  CallsIn F n Tryz.prog 222 #[nS,.func (.func 191) #[] #[.pointer (some (ad Bm 0))]] w fun e w'=>∃v xs,e=.returned v/\xs.Perm L/\Jb w' w.heap.size v xs/\Bw w w':=by
 have h1:1<=n:=by omega
 obtain⟨i0,hi,aG,aH,aF⟩:=jtp
 refine callsIn_of_wp_marks Tryz.func222 rfl Vh ?_ lI
 simp only[Tryz.ntmps222,List.size_toArray,List.length_cons,List.length_nil,Nat.reduceAdd,Nat.reduceSub,Array.replicate_succ,Array.replicate_zero,List.push_toArray,List.append_toArray,List.nil_append,List.cons_append]
 gi_wp2
 have bO:=Boxed.new w 56 nS
 have ag:Bw w (w.alloc (.cells #[nS] 56)):=qal w _
 have dP:(w.alloc (.cells #[nS] 56)).heap.size=w.heap.size+1:=by simp
 refine wpIn_rangeFunc_ownH lI h1 (gf:=191) (lb:=#[.pointer (some (ad Bm 0))]) rfl h8 (enters_of Tryz.func191 (by kernel_rfl) rfl)
  (values_stops F (n-1) h8 lI (by omega) Bm b nn f L _ (by simp;omega) (jaa ag hm) (hM.below ag) hT hL) walksK_t walksK_b (brf _ _) (fun _=>rfl)
  (fun bK W=>(∃v,Boxed W w.heap.size 56 v/\W.ownsRow w.heap.size 59 6 v bK.length (bK.map EventD.cs).flatten/\True)/\Bw w W)
  (fun _ _ _=>False)
  (OwnFrom.and (Own.from (holdsRow_own w.heap.size w.heap.size 56 59 6 (fun bK=>bK.length) (fun bK:List EventD=>(bK.map EventD.cs).flatten) (fun _ _=>True)) _) (ownFrom_below (nlr _) (by simp)))
  (fun _ _ _ _ _ hs _ _=>hs)
  ⟨⟨_,bO,World.ownsRow_nil _ _ _ _,trivial⟩,ag⟩
  (fun x a' W=>∃Bx,W.heap[Bx]? =some (.cells #[iv x.id,.string x.name,.string x.zone,iv x.wall,iv x.gap,iv x.fold] 59 (0,0))/\a'={ tmps:=#[nS,.func (.func 191) #[] #[.pointer (some (ad Bm 0))],.pointer (some (ad w.heap.size 0)),undef,nS,.pointer (some (ad Bx 0)),.func (.func 191) #[] #[.pointer (some (ad Bm 0))],x.v,undef,undef,undef,undef,undef],defers:=[] })
  (fun x a' _ X Y row hs hg hr=>by
   obtain⟨Bx,k1,k2⟩:=hs
   refine⟨Bx,(hg.block Bx (Array.getElem?_eq_some_iff.1 k1).1 (fun e=>?_)).trans k1,k2⟩
   obtain⟨_,oo,ho,hc⟩:=hr Bx e.symm
   rw[k1]at ho
   cases ho
   cases hc)
  ?assign ?body ?done ?stop
 case assign=>
  rintro q bK ⟨x0,x1,x2,x3,x4,x5⟩ W K ⟨⟨v,hv,ap,_⟩,hB⟩ hK
  simp only[EventD.v]at *
  gi_wp2
  exact hK _ _ ((KeepsOthers.alloc _ _).from _) (KeepsOthers.alloc _ _).walks ⟨⟨v,hv.alloc _,ap.alloc _,trivial⟩,hB.alloc hB.size _⟩ ⟨W.heap.size,World.alloc_heap_new W _,rfl⟩
 case body=>
  rintro q bK ⟨x0,x1,x2,x3,x4,x5⟩ a' W hq ⟨r,hr⟩ ⟨⟨v,hv,ap,_⟩,hB⟩ ⟨Bx,cR,rfl⟩ hlt
  have hc:=hv.cell
  have dI:=hB.size
  have e0:W.cell? (ad Bx 0)=some (iv x0):=by simp[World.cell?,cR]
  have e1:W.cell? (ad Bx 1)=some (.string x1):=by simp[World.cell?,cR]
  have e2:W.cell? (ad Bx 2)=some (.string x2):=by simp[World.cell?,cR]
  have e3:W.cell? (ad Bx 3)=some (iv x3):=by simp[World.cell?,cR]
  have e4:W.cell? (ad Bx 4)=some (iv x4):=by simp[World.cell?,cR]
  have e5:W.cell? (ad Bx 5)=some (iv x5):=by simp[World.cell?,cR]
  simp only[EventD.v]at *
  clear cR hq hr
  gi_wp2_with (gi_at_builtin;refine wpListIn_append_own _ rfl _ _ 56 rfl w.heap.size 59 i0 (.agg #[iv 0,.string ⟨#[]⟩,.string ⟨#[]⟩,iv 0,iv 0,iv 0]) 6 64 Tryz.underlying56 hi aG aH aF rfl (by decide) _ _ _ rfl (ap.alloc _) (ad W.heap.size 0) 1 1 [iv x0,.string x1,.string x2,iv x3,iv x4,iv x5] rfl rfl (by have h:=jah W [iv x0,.string x1,.string x2,iv x3,iv x4,iv x5] 59;simpa using h) (by intro u hu;simp at hu;rcases hu with rfl|rfl|rfl|rfl|rfl|rfl<;>rfl) (by unfold maxLen;omega) (by omega) (by simp;omega) ?_;intro v' w1 ao af _;obtain⟨g',fK,rfl⟩:=ownsRow_succ ao;obtain⟨ej,eQ,dC,fy,ac⟩:=hv.appended (by decide) ap hB.size (nlr _) ao af;have aX:=ej.cell;have dg:=ej.frozen)
  exact⟨fy.from _,fy.walks,⟨_,eQ,by simpa [EventD.cs]using dC,trivial⟩,hB.trans ac⟩
 case done=>
  rintro D ys W hD hp ⟨⟨v,hv,ap,_⟩,hB⟩ hK
  have hc:=hv.cell
  gi_wp2
  refine⟨by simp,.inl ⟨_,_,rfl,run_takeDeferred hK,?_⟩⟩
  exact⟨_,results_tmp rfl _ _ _,v,ys,rfl,hp,ownsRow_putObj ap (.deferred none) hK rfl,hB.trans (belowK_b (w:=w) (nlr _) W D _ _ (by simp at hD;omega) hK rfl rfl)⟩
 case stop=>
  rintro D c bK W _ _ h _
  exact h.elim
theorem impl_collect(Bm b nn:Nat)(f:Int->Option EventD)(L:List EventD)(w:World)(gu:Bm<w.heap.size)(hm:w.cell? (ad Bm 0)=some (.map (some b)))(hM:Zm w b nn f)(hT:Tells f L)(hL:L.Pairwise fun x y=>x.id<y.id)(hl:L.length<=1048576):
  Cl 189 #[.func (.func 191) #[] #[.pointer (some (ad Bm 0))]] w fun e w'=>∃v xs,e=.returned v/\xs.Perm L/\Jb w' w.heap.size v xs/\Bw w w':=by
 have hA:Cl 222 #[nS,.func (.func 191) #[] #[.pointer (some (ad Bm 0))]] w _:=(callsIn_wide (n:=3)).1 (appendSeq_in Fence.wide 3 trivial trivial rfl (by omega) Bm b nn f L w gu hm hM hT hL hl)
 unfold Cl;go_in
 go_wp2_with fail
 refine hA.mono ?_
 rintro e w1 ⟨v,xs,rfl,hp,hO,hb⟩
 obtain⟨p,m,c,rfl⟩:=jad hO
 go_wp2
 go_ret
 exact⟨_,xs,rfl,hp,hO,hb⟩
theorem impl_byId(b nn:Nat)(f:Int->Option EventD)(L:List EventD)(w:World)(hM:Zm w b nn f)(hT:Tells f L)(hL:L.Pairwise fun x y=>x.id<y.id)(hl:L.length<=1048576):
  Cl 102 #[.map (some b)] w fun e w'=>∃v,e=.returned v/\Jb w' w.heap.size v L/\Bw w w':=by
 have hV:=impl_values b w
 have ag:Bw w (w.alloc (.cells #[.map (some b)] 116)):=qal w _
 have hC:=impl_collect w.heap.size b nn f L (w.alloc (.cells #[.map (some b)] 116)) (by simp) (by simp[go_sem]) (hM.below ag) hT hL hl
 have Vk:Cl 153 #[.func (.func 191) #[] #[.pointer (some (ad w.heap.size 0))],.func (.func 155) #[] #[]] (w.alloc (.cells #[.map (some b)] 116)) fun e w'=>∃v,e=.returned v/\Jb w' w.heap.size v L/\Bw w w':=by
  unfold Cl;go_in
  go_wp2_with fail
  refine hC.mono ?_
  rintro e w1 ⟨v,xs,rfl,hp,hO,hb⟩
  have hS:=sortE xs _ v w1 hO (perm_ids hL hp) (by rw[hp.length_eq];exact hl)
  obtain⟨p,m,c,rfl⟩:=jad hO
  have aj:=qtr ag hb
  go_wp2_with fail
  refine hS.mono ?_
  rintro e w2 ⟨rfl,Q,hQ,hs,aW,hg⟩
  have an:Bw w w2:=aj.grown hg aj.size (fun k hk=>by have:=(World.ownsRow.lt hO k hk).1;simp at this;omega)
  obtain rfl:=perm_up hL hp hQ hs
  go_wp2
  go_ret
  exact⟨_,rfl,jaj aW (by simp),an⟩
 unfold Cl;go_in
 go_wp2_with fail
 refine hV.mono ?_
 rintro e w1 ⟨rfl,rfl⟩
 go_wp2_with fail
 refine Vk.mono ?_
 rintro e w2 ⟨v,rfl,hO,hb⟩
 obtain⟨p,m,c,rfl⟩:=jad hO
 go_wp2
 go_ret
 exact⟨_,rfl,hO,hb⟩
end
section
open Go.RowKit Go.Lib Go.Sort
theorem stat_zero(w:World):Jd w (.agg (stA zeroS none none none none none none none none 0 0 0 0 0 0 0 0).toArray) zeroS:=(StC.nil w 0 0 (nlr _)).st
end
structure RightS(s:StoreD):Prop where
 now:relB s.now=true
 was:relB s.was=true
 vl:s.vs.length<=60
 tx:0<=s.tx/\s.tx<=900000
 ver:verB s.vs s.tx=true
 ll:(jan s.vs).length<=30
 zone:∀x∈jan s.vs,jdv s x.zone=true
theorem rightS{s:StoreD}(h:storeS s=true):RightS s:=by
 have hp:=store_parts (jkt s ▸ h)
 unfold storeS at h
 simp only[bat,List.all_eq_true]at h
 exact⟨h.1,h.2.1,hp.1,hp.2.1,h.2.2.2.1,hp.2.2.2,h.2.2.2.2.2.2.2.1⟩
theorem RightS.ev{s:StoreD}(h:RightS s){e:EventD}(he:e∈jan s.vs):EvR e:=by
 obtain⟨v,hm,rfl⟩:=jl5 he
 exact jhs (jfk h.ver v hm)
theorem rel0_ok:Jk ⟨[],[],[]⟩:=⟨⟨⟨Nat.zero_le _,fun x hx=>by simp at hx⟩,⟨Nat.zero_le _,fun x hx=>by simp at hx⟩,⟨Nat.zero_le _,fun x hx=>by simp at hx⟩⟩,⟨Nat.zero_le _,Nat.zero_le _,Nat.zero_le _,fun x hx=>by simp at hx⟩,fun x hx=>by simp at hx⟩
theorem zero_ok:Zr zeroS:=⟨rel0_ok,rel0_ok,fun x hx=>by simp[zeroS]at hx,Nat.zero_le _,Nat.zero_le _⟩
section
open Go.RowKit Go.ChangeMaps Go.MapKept Go.WideMaps Go.Sort
def waitE(s:StoreD):List EventD:=(jan s.vs).filter (waitB s.cur)
def cntE(f g:EventD->Int × Bool)(l:List EventD):Nat:=(l.filter fun e=> !decide (f e=g e)).length
theorem cntE_take{f g:EventD->Int × Bool}{l:List EventD}{j:Nat}{x:EventD}(h:l[j]? =some x):cntE f g (l.take (j+1))=cntE f g (l.take j)+(if f x=g x then 0 else 1):=by
 unfold cntE
 rw[List.take_add_one,h,List.filter_append,lla]
 by_cases e:f x=g x<;>simp[e]
theorem cntE_len(f g:EventD->Int × Bool)(l:List EventD):cntE f g l<=l.length:=List.length_filter_le _ _
def lastC(l:List EventD):Int:=match l.getLast? with
 |some e=>e.id
 |none=>0
def stB(s:StoreD)(m:Nat):StoreD:=if (waitE s).length<=m then setS s else⟨s.tx,s.now,s.was,lastC ((waitE s).take m)+1,s.vs,s.ix⟩
def folS(s:StoreD)(m:Nat):StoreD:=⟨s.tx,s.now,(stB s m).was,(stB s m).cur,s.vs,entF (momB (stB s m)) (jan s.vs)⟩
def folN(s:StoreD)(m:Nat):Nat:=cntE (momD s.was) (momD s.now) ((waitE s).take m)
def batC(s:StoreD)(pv:Int):Option Int:=if 1<=pv/\pv<=1000 then(if s.cur=0 then some 10 else none)else some 1
structure FolI(s:StoreD)(X:List (Nat × Value))(w0:World)(bb lb n nm wm:Nat)(a b c d e f:Option Addr)(ca cb cc cd ce cf:Nat)(bx:Nat)(ar:Option Addr)(W:List EventD)(k:Nat)(w:World):Prop where
 book:Zl X w0 w s bb lb nm wm k k a b c d e f ca cb cc cd ce cf
 live:Zm w lb n (jch s.vs)
 box:w.heap[bx]? =some (.cells #[.pointer (some (ad bb 0))] 66 (0,0))
 row:Za w ar 6 (W.map EventD.cs)
theorem FolI.below{s:StoreD}{X:List (Nat × Value)}{w0:World}{bb lb n nm wm:Nat}{a b c d e f:Option Addr}{ca cb cc cd ce cf:Nat}{bx:Nat}{ar:Option Addr}{W:List EventD}{k:Nat}{w w':World}(h:FolI s X w0 bb lb n nm wm a b c d e f ca cb cc cd ce cf bx ar W k w)(hb:Bw w w'):FolI s X w0 bb lb n nm wm a b c d e f ca cb cc cd ce cf bx ar W k w':=⟨h.book.below hb,h.live.below hb,(hb.block bx (Array.getElem?_eq_some_iff.mp h.box).1).trans h.box,h.row.below hb⟩
theorem FolI.cell0{s:StoreD}{X:List (Nat × Value)}{w0:World}{bb lb n nm wm:Nat}{a b c d e f:Option Addr}{ca cb cc cd ce cf:Nat}{bx:Nat}{ar:Option Addr}{W:List EventD}{k:Nat}{w:World}(h:FolI s X w0 bb lb n nm wm a b c d e f ca cb cc cd ce cf bx ar W k w):w.cell? (ad bx 0)=some (.pointer (some (ad bb 0))):=by simp[World.cell?,h.box]
theorem FolI.kept{s:StoreD}{X:List (Nat × Value)}{w0:World}{bb lb n nm wm:Nat}{a b c d e f:Option Addr}{ca cb cc cd ce cf:Nat}{bx:Nat}{ar:Option Addr}{W:List EventD}{k k2 g:Nat}{w w':World}(h:FolI s X w0 bb lb n nm wm a b c d e f ca cb cc cd ce cf bx ar W k w)(hB:Zl X w0 w' s bb lb nm wm k2 k2 a b c d e f ca cb cc cd ce cf)(hg:w.grownBy w' (some g))(hm:∃es c,w.heap[g]? =some (.map es c))(hl:g≠lb):FolI s X w0 bb lb n nm wm a b c d e f ca cb cc cd ce cf bx ar W k2 w':=by
 obtain⟨es,cl,hm⟩:=hm
 refine⟨hB,h.live.kept hg (by simpa using Ne.symm hl),(hg.block bx (Array.getElem?_eq_some_iff.mp h.box).1 (fun e=>?_)).trans h.box,seq_grown h.row hg fun b o hc e=>hc ?_⟩
 ·injection e with e
  have:=h.box
  rw[e,hm]at this
  cases this
 ·injection e with e
  subst e
  exact jrt hm o
theorem FolI.ask_w{s:StoreD}{X:List (Nat × Value)}{w0:World}{bb lb n nm wm:Nat}{a b c d e f:Option Addr}{ca cb cc cd ce cf:Nat}{bx:Nat}{ar:Option Addr}{W:List EventD}{k:Nat}{w:World}(h:FolI s X w0 bb lb n nm wm a b c d e f ca cb cc cd ce cf bx ar W k w)(ev:EventD){Qq:World}(bg:Bw Qq w0)(hE:Zx Qq)(hW:Zd Qq (.agg #[.slice d s.was.rules.length cd,.slice e s.was.zones.length ce,.slice f s.was.links.length cf]) s.was)(ok:Jk s.was)(hr:relB s.was=true)(hk:k<=1000)(hl:wm≠lb){P:Int × Bool}(hP:momD s.was ev=P):
  Cl 104 #[.agg #[.slice d s.was.rules.length cd,.slice e s.was.zones.length ce,.slice f s.was.links.length cf,.map (some wm)],ev.v] w fun q w'=>q=.returned (.agg #[iv P.1,.bool P.2])/\FolI s X w0 bb lb n nm wm a b c d e f ca cb cc cd ce cf bx ar W (k+1) w'/\w.grownBy w' (some wm):=by
 have hb:=bg.trans (h.book.bel.mono bg.size)
 subst hP
 exact(jfd s.was d e f cd ce cf wm k ev w (hE.of_below hb) (hW.below hb) ok hr h.book.cw (by omega)).mono fun q w' hP=>⟨hP.ex,h.kept (h.book.grew_w hP.grown hP.cache) hP.grown (jjr h.book.cw) hl,hP.grown⟩
theorem FolI.ask_n{s:StoreD}{X:List (Nat × Value)}{w0:World}{bb lb n nm wm:Nat}{a b c d e f:Option Addr}{ca cb cc cd ce cf:Nat}{bx:Nat}{ar:Option Addr}{W:List EventD}{k:Nat}{w:World}(h:FolI s X w0 bb lb n nm wm a b c d e f ca cb cc cd ce cf bx ar W k w)(ev:EventD){Qq:World}(bg:Bw Qq w0)(hE:Zx Qq)(hN:Zd Qq (.agg #[.slice a s.now.rules.length ca,.slice b s.now.zones.length cb,.slice c s.now.links.length cc]) s.now)(ok:Jk s.now)(hr:relB s.now=true)(hk:k<=1000)(hl:nm≠lb){P:Int × Bool}(hP:momD s.now ev=P):
  Cl 104 #[.agg #[.slice a s.now.rules.length ca,.slice b s.now.zones.length cb,.slice c s.now.links.length cc,.map (some nm)],ev.v] w fun q w'=>q=.returned (.agg #[iv P.1,.bool P.2])/\FolI s X w0 bb lb n nm wm a b c d e f ca cb cc cd ce cf bx ar W (k+1) w'/\w.grownBy w' (some nm):=by
 have hb:=bg.trans (h.book.bel.mono bg.size)
 subst hP
 exact(jfd s.now a b c ca cb cc nm k ev w (hE.of_below hb) (hN.below hb) ok hr h.book.cn (by omega)).mono fun q w' hP=>⟨hP.ex,h.kept (h.book.grew_n hP.grown hP.cache) hP.grown (jjr h.book.cn) hl,hP.grown⟩
theorem Zl.turn{w0 w:World}{s:StoreD}{a1 a2 a3 a4 a5 a6 a8 a9:Option Addr}{c1 c2 c3 c4 c5 c6 c8 c9:Nat}{bb lb nm wm nn wn:Nat}{a b c d e f:Option Addr}{ca cb cc cd ce cf:Nat}(h:Zl (bkX s a1 a2 a3 a4 a5 a6 a8 a9 c1 c2 c3 c4 c5 c6 c8 c9) w0 w s bb lb nm wm nn wn a b c d e f ca cb cc cd ce cf)(hb:w0.heap.size<=bb)(z:Int):Zl (bkX ⟨s.tx,s.now,s.was,z,s.vs,s.ix⟩ a1 a2 a3 a4 a5 a6 a8 a9 c1 c2 c3 c4 c5 c6 c8 c9) w0 (w.setCell (ad bb 7) (iv z)) ⟨s.tx,s.now,s.was,z,s.vs,s.ix⟩ bb lb nm wm nn wn a b c d e f ca cb cc cd ce cf:=by
 have az:∀cs,w.heap[bb]? ≠some (.cells cs 164 (0,0)):=fun cs hc=>by
  obtain⟨ds,hd⟩:=h.blk
  rw[hd]at hc
  simp at hc
 exact Zh.book (h.var.set (j:=7) (iv z)) (h.bel.setCell (p:=(ad bb 7)) hb _) (h.cn.grown (jem w bb 7 _) (Ne.symm h.ne_n) az) (h.cw.grown (jem w bb 7 _) (Ne.symm h.ne_w) az) h.ne h.bn h.bw (set_blk h.blk)
theorem rel0_at(w:World):Zd w (.agg #[nS,nS,nS]) ⟨[],[],[]⟩:=⟨none,none,none,0,0,0,rfl,.inl rfl,.inl rfl,.inl rfl⟩
theorem rel0_right:relB ⟨[],[],[]⟩=true:=by decide
structure BookE(s s2:StoreD)(Qq w:World)(bb bx n:Nat)(x:Option Addr):Prop where
 ex:∃lb a1 a2 a3 a4 a5 a6 a8 a9 c1 c2 c3 c4 c5 c6 c8 c9 nm wm k w0 B M1 M2 M3 a b c d e f ca cb cc cd ce cf,x=some (ad bb 0)/\Zm w lb n (jch s.vs)/\Zl (bkX s2 a1 a2 a3 a4 a5 a6 a8 a9 c1 c2 c3 c4 c5 c6 c8 c9) w0 w s2 bb lb nm wm k k a b c d e f ca cb cc cd ce cf/\k<=90/\Bw Qq w0/\Zx w0/\Zd w0 (.agg #[.slice a s2.now.rules.length ca,.slice b s2.now.zones.length cb,.slice c s2.now.links.length cc]) s2.now/\Zd w0 (.agg #[.slice d s2.was.rules.length cd,.slice e s2.was.zones.length ce,.slice f s2.was.links.length cf]) s2.was/\(nm≠lb/\wm≠lb/\w0.heap.size<=bb/\Qq.heap.size<=B)/\(relB s2.now=true/\relB s2.was=true/\Jk s2.now/\Jk s2.was)/\(B<=M1/\M1<=M2/\M2<=M3/\M3<=w0.heap.size)/\RelC w0 B M1 (.slice a1 s2.now.rules.length c1) (.slice a2 s2.now.zones.length c2) (.slice a3 s2.now.links.length c3) s2.now/\RelC w0 M1 M2 (.slice a4 s2.was.rules.length c4) (.slice a5 s2.was.zones.length c5) (.slice a6 s2.was.links.length c6) s2.was/\RowC w0 M2 M3 92 8 (.slice a8 s2.vs.length c8) (s2.vs.map VersionD.cs)
 box:w.heap[bx]? =some (.cells #[.pointer (some (ad bb 0))] 66 (0,0))
 vs:s2.vs=s.vs
theorem BookE.below{s s2:StoreD}{Qq w w':World}{bb bx n:Nat}{x:Option Addr}(h:BookE s s2 Qq w bb bx n x)(hb:Bw w w'):BookE s s2 Qq w' bb bx n x:=by
 obtain⟨lb,a1,a2,a3,a4,a5,a6,a8,a9,c1,c2,c3,c4,c5,c6,c8,c9,nm,wm,k,w0,B,M1,M2,M3,a,b,c,d,e,f,ca,cb,cc,cd,ce,cf,h0,hM,hB,hr⟩:=h.ex
 exact⟨⟨lb,a1,a2,a3,a4,a5,a6,a8,a9,c1,c2,c3,c4,c5,c6,c8,c9,nm,wm,k,w0,B,M1,M2,M3,a,b,c,d,e,f,ca,cb,cc,cd,ce,cf,h0,hM.below hb,hB.below hb,hr⟩,(hb.block bx (Array.getElem?_eq_some_iff.mp h.box).1).trans h.box,h.vs⟩
theorem BookE.cell0{s s2:StoreD}{Qq w:World}{bb bx n:Nat}{x:Option Addr}(h:BookE s s2 Qq w bb bx n x):w.cell? (ad bx 0)=some (.pointer (some (ad bb 0))):=by simp[World.cell?,h.box]
theorem BookE.done{s s2:StoreD}{Qq w:World}{bb bx n:Nat}{x:Option Addr}(h:BookE s s2 Qq w bb bx n x)(hL:(jan s.vs).length<=30):∃a9 i9 c9,w.cell? (ad bb 9)=some (.slice a9 i9 c9)/\Cl 61 #[.pointer (some (ad bb 0))] w fun q w'=>∃p d,q=.returned (.slice p (entF (momB s2) (jan s.vs)).length d)/\w'.heap[bx]? =some (.cells #[.pointer (some (ad bb 0))] 66 (0,0))/\w'.cell? (ad bb 9)=some (.slice a9 i9 c9)/\w'.frozen? (ad bb 9)=false/\BAddP ⟨s2.tx,s2.now,s2.was,s2.cur,s2.vs,entF (momB s2) (jan s.vs)⟩ Qq x (.returned (.tuple #[])) (w'.setCell (ad bb 9) (.slice p (entF (momB s2) (jan s.vs)).length d)):=by
 obtain⟨lb,a1,a2,a3,a4,a5,a6,a8,a9,c1,c2,c3,c4,c5,c6,c8,c9,nm,wm,k,w0,B,M1,M2,M3,a,b,c,d,e,f,ca,cb,cc,cd,ce,cf,rfl,hM,hB,hk,bg,hE,hN,hW,⟨n1,n2,n3,n4⟩,⟨r1,r2,D6,kS⟩,⟨m1,m2,m3,m4⟩,Pu,uE,Pv⟩:=h.ex
 have az:∀q nq r,Zi w q nq r->q≠bx:=fun q nq r hc he=>by
  obtain⟨es,cl,hm⟩:=jjr hc
  rw[he,h.box]at hm
  cases hm
 have jy:=impl_bookEntriesG w0 s2 bb lb nm wm n k bx (.cells #[.pointer (some (ad bb 0))] 66 (0,0)) a b c d e f ca cb cc cd ce cf (jch s.vs) (jan s.vs) w hE hN hW D6 kS r1 r2 hB n1 n2 h.box (az _ _ _ hB.cn) (az _ _ _ hB.cw) hM (jga _) (jhr _) (by omega)
 refine⟨a9,s2.ix.length,c9,hB.more (9,_) (by simp[bkX]),jy.mono ?_⟩
 rintro q w9 pY
 obtain⟨v9,rfl,eB⟩:=pY.ex
 obtain⟨j,hj,fS,Yt⟩:=pY.inv
 obtain⟨p9,d9,rfl⟩:=own_shape2 eB
 have vE:=pY.size
 have dP:=hB.bel.size
 generalize entF (momB s2) (jan s.vs)=EE at *
 have lW:Zl (bkX ⟨s2.tx,s2.now,s2.was,s2.cur,s2.vs,EE⟩ a1 a2 a3 a4 a5 a6 a8 p9 c1 c2 c3 c4 c5 c6 c8 d9) w0 (w9.setCell (ad bb 9) (.slice p9 EE.length d9)) s2 bb lb nm wm (k+j) (k+j) a b c d e f ca cb cc cd ce cf:=fS.set 9 _ (by omega) (by omega) n3 (fun p hp=>by
  simp only[bkX,List.mem_cons,List.not_mem_nil,or_false]at hp ⊢
  rcases hp with rfl|rfl|rfl|rfl|rfl|rfl|rfl|rfl|rfl<;>simp)
 have iF:bb<w.heap.size:=qbl hB.cur
 have wY:∀b,b<w0.heap.size->(w9.setCell (ad bb 9) (.slice p9 EE.length d9)).heap[b]? =w0.heap[b]? :=fun b hb=>(heap_setCell_other w9 (ad bb 9) b _ (by simp;omega)).trans (fS.bel.block b hb)
 have uB:=World.ownsRow.kept eB (jck w9 bb 9 (.slice p9 EE.length d9)) (by
  cases h:(Value.slice p9 EE.length d9).ownBlock with
  |none=>exact .inl rfl
  |some x=>exact .inr (by have:=(World.ownsRow.lt eB x h).1;simp;omega))
 refine⟨p9,d9,rfl,Yt,fS.more (9,_) (by simp[bkX]),fS.free 9,rfl,⟨bb,a1,a2,a3,a4,a5,a6,a8,p9,c1,c2,c3,c4,c5,c6,c8,d9,B,_,rfl,lW.more,lW.cur,?_,n4,nlr _⟩,bg.trans (lW.bel.mono bg.size)⟩
 exact⟨a1,a2,a3,a4,a5,a6,a8,p9,c1,c2,c3,c4,c5,c6,c8,d9,M1,M2,M3,rfl,⟨m1,m2,m3,by rw[World.size_setCell];omega⟩,Pu.keep fun b _ h2=>wY b (by omega),uE.keep fun b _ h2=>wY b (by omega),Pv.keep fun b _ h2=>wY b (by omega),⟨by rw[llm];exact jaj uB (by omega),fun x hx=>by rw[World.size_setCell];exact(World.ownsRow.lt eB x hx).2⟩⟩
theorem wait_last{s:StoreD}{m:Nat}{x:EventD}(h:(waitE s)[m-1]? =some x)(h1:1<=m)(h2:¬(waitE s).length<=m):lastC ((waitE s).take m)=x.id:=by
 unfold lastC
 have hl:=(lgs h).1
 rw[List.getLast?_eq_getElem?,List.length_take,List.getElem?_take,Nat.min_eq_left (by omega),if_pos (by omega),h]
theorem wait_len(s:StoreD):(waitE s).length<=(jan s.vs).length:=List.length_filter_le _ _
end
section
open Go.RowKit Go.ChangeMaps Go.MapKept Go.WideMaps Go.Sort
theorem impl_follow(s:StoreD)(ok:Zr s)(pv:Nat)(P6:1<=pv)(P7:pv<=1000)(Qq w:World)(xa:Option Addr)(hK:BookC s Qq w xa)(hL:(jan s.vs).length<=30)(hid:∀x∈jan s.vs,1<=x.id/\x.id<=1000000):
  Cl 62 #[.pointer xa,iv pv] w fun q w'=>q=.returned (iv (folN s pv))/\BAddP (folS s pv) Qq xa (.returned (.tuple #[])) w':=by
 obtain⟨bb,lb,n,a1,a2,a3,a4,a5,a6,a8,a9,c1,c2,c3,c4,c5,c6,c8,c9,nm,wm,k,w0,B,a,b,c,d,e,f,ca,cb,cc,cd,ce,cf,rfl,hM,hn,F5,hk,bg,hE,hN,hW,⟨n1,n2,n3,n4,n5,n6⟩,oG,dC,hC⟩:=hK.ex
 obtain⟨M1,M2,M3,⟨m1,m2,m3,m4⟩,Pu,uE,Pv,_⟩:=hC.parts
 have b1:=qal w (.cells #[.pointer (some (ad bb 0))] 66)
 have iG:=impl_byId lb n (jch s.vs) (jan s.vs) _ (hM.below b1) (jga _) (jhr _) (by omega)
 have Vd:(w.alloc (.cells #[.pointer (some (ad bb 0))] 66)).heap[w.heap.size]? =some (.cells #[.pointer (some (ad bb 0))] 66 (0,0)):=heap_alloc_new w _
 have ji:(w.alloc (.cells #[.pointer (some (ad bb 0))] 66)).heap.size=w.heap.size+1:=by simp
 have y0:(w.alloc (.cells #[.pointer (some (ad bb 0))] 66)).cell? (ad w.heap.size 0)=some (.pointer (some (ad bb 0))):=by simp[go_sem]
 have y10:=jaa b1 F5.live
 have TC:=hidP b1
 have UG:=hidP F5
 have HM:=hidP hM
 have HR:=hidP (And.intro Pu (And.intro uE Pv))
 have HE:=hidP (And.intro hE (And.intro hN hW))
 clear hC Pu uE Pv hE hN hW hK hM F5 b1
 unfold Cl;go_in
 go_wp2_with fail
 generalize w.alloc (.cells #[.pointer (some (ad bb 0))] 66)=wA at *
 refine iG.mono ?_
 rintro q w1 ⟨v1,rfl,dW,hb1⟩
 obtain⟨p1,q1,k1,rfl⟩:=jad dW
 have UW:=ev_delete (jan s.vs) wA.heap.size _ w1 dW (follow_del w.heap.size bb wA.heap.size s.cur w1 (jaa hb1 y0) (jaa hb1 (jaa TC.out UG.out.cur)) (by omega) (by omega)) hb1.size (by omega)
 go_wp2_with fail
 refine UW.mono ?_
 rintro q w2 ⟨v2,rfl,aW,ac⟩
 obtain⟨ar,cap,eQ,dR⟩:=aW.seq
 subst eQ
 have xV:=own_cap aW
 have an:Bw wA w2:=hb1.trans ac
 have nX:FolI s (bkX s a1 a2 a3 a4 a5 a6 a8 a9 c1 c2 c3 c4 c5 c6 c8 c9) w0 bb lb n nm wm a b c d e f ca cb cc cd ce cf w.heap.size ar (waitE s) k w2:=⟨(UG.out.below TC.out).below an,(HM.out.below TC.out).below an,(an.block _ (by omega)).trans Vd,dR⟩
 have uM:=wait_len s
 have Oo:Hid (((jan s.vs).filter (waitB s.cur))=waitE s):=rfl
 rw[Oo.out]at xV dR ⊢
 have Vn:w.heap.size<w2.heap.size:=by have:=an.size;omega
 clear iG UW dW aW hb1 ac an y0 y10 Vd Oo
 obtain⟨NW,TP⟩:=qeb ((waitE s).length)
 have Oo:=hidP TP
 rw[TP]at uM xV ⊢
 clear TP
 obtain⟨mm,gi⟩:=qeb (min pv NW)
 have P8:min (pv:Int) (NW:Int)=(mm:Int):=by omega
 have l1:(mm:Int)<=(NW:Int):=by omega
 have l2:(mm:Int)<=(cap:Int):=by omega
 have l3:(0:Int)<=(mm:Int):=by omega
 have y0:=nX.cell0
 have TE:=hidP nX
 clear nX
 go_wp2
 go_loopw [7,9,25] (fun s7 _ TR wr=>∃j:Nat,TR=iv j/\j<=mm/\s7=iv (cntE (momD s.was) (momD s.now) ((waitE s).take j))/\Hid (FolI s (bkX s a1 a2 a3 a4 a5 a6 a8 a9 c1 c2 c3 c4 c5 c6 c8 c9) w0 bb lb n nm wm a b c d e f ca cb cc cd ce cf w.heap.size ar (waitE s) (k+2*j) wr)) (fun _ _ TR _=>mm-(intOf TR).toNat)
 case atStart=>exact⟨0,rfl,by omega,rfl,TE⟩
 case round=>
  obtain⟨wa,dS⟩:=qea wr
  subst dS
  obtain⟨j,rfl,hj,rfl,HI⟩:=hrel
  by_cases hlt:j<mm
  ·obtain⟨x,hx⟩:∃x,(waitE s)[j]? =some x:=⟨_,lgg (by rw[Oo.out];omega)⟩
   have Oq:=hidP (cntE_take (f:=momD s.was) (g:=momD s.now) hx)
   have uQ:=cntE_len (momD s.was) (momD s.now) ((waitE s).take j)
   rw[List.length_take]at uQ
   have hI:=HI.out
   obtain⟨rb,ro,rfl,hc⟩:=hI.row.at (i:=j) (r:=x.cs) (by rw[lgm,hx];rfl)
   have TG:wa.cell? (ad rb (ro+j*6))=some (iv x.id):=hc 0 _ rfl
   have TH:wa.cell? (ad rb (ro+j*6+1))=some (.string x.name):=hc 1 _ rfl
   have TI:wa.cell? (ad rb (ro+j*6+2))=some (.string x.zone):=hc 2 _ rfl
   have TJ:wa.cell? (ad rb (ro+j*6+3))=some (iv x.wall):=hc 3 _ rfl
   have TK:wa.cell? (ad rb (ro+j*6+4))=some (iv x.gap):=hc 4 _ rfl
   have TL:wa.cell? (ad rb (ro+j*6+5))=some (iv x.fold):=hc 5 _ rfl
   have b3:Bw wa (wa.alloc (.cells #[iv x.id,.string x.name,.string x.zone,iv x.wall,iv x.gap,iv x.fold] 59)).drew:=(qal wa _).trans ((jab _).mono (by simp))
   have Ff:=hI.below b3
   have E3:=(Zh.new wa [iv x.id,.string x.name,.string x.zone,iv x.wall,iv x.gap,iv x.fold] 59).below (jab _)
   obtain⟨P,hP⟩:=qeb (momD s.was x)
   obtain⟨Q,hQ⟩:=qeb (momD s.now x)
   have TO:=Ff.ask_w x bg HE.out.1 HE.out.2.2 ok.was dC (by omega) n2 hP
   have Br:=fun W (h:FolI s (bkX s a1 a2 a3 a4 a5 a6 a8 a9 c1 c2 c3 c4 c5 c6 c8 c9) w0 bb lb n nm wm a b c d e f ca cb cc cd ce cf w.heap.size (some (ad rb ro)) (waitE s) (k+2*j+1) W)=>h.ask_n x bg HE.out.1 HE.out.2.1 ok.now oG (by omega) n1 hQ
   simp only[EventD.v]at TO Br
   have Vq:=Ff.cell0
   have Ux:=Ff.book.n0
   have Uy:=Ff.book.n1
   have Uz:=Ff.book.n2
   have UA:=Ff.book.n3
   have UB:=Ff.book.w1
   have UC:=Ff.book.w2
   have UD:=Ff.book.w3
   have UE:=Ff.book.w4
   have UN:=E3.c 0 rfl
   have UO:=E3.c 1 rfl
   have UP:=E3.c 2 rfl
   have UR:=E3.c 3 rfl
   have US:=E3.c 4 rfl
   have UT:=E3.c 5 rfl
   have Vy:wm<wa.heap.size:=hI.book.cw.lt
   have fH:nm<wa.heap.size:=hI.book.cn.lt
   have j1:(j:Int)<(mm:Int):=by omega
   have j0:(0:Int)<=(j:Int):=by omega
   rw[hP,hQ]at Oq
   obtain⟨P1,P2⟩:=P
   obtain⟨Q1,Q2⟩:=Q
   clear hc hx hI b3 TE y0 hP hQ
   have Vj:(P1,P2)=(Q1,Q2)\/((P1==Q1)=false\/(P2==Q2)=false)/\(P1,P2)≠(Q1,Q2):=by
    by_cases h1:P1=Q1
    ·by_cases h2:P2=Q2
     ·exact .inl (by rw[h1,h2])
     ·exact .inr ⟨.inr (by simpa using h2),fun h=>h2 (by injection h)⟩
    ·exact .inr ⟨.inl (by simpa using h1),fun h=>h1 (by injection h)⟩
   rcases Vj with he|⟨he|he,hnp⟩
   rotate_left
   all_goals try
    rw[if_neg hnp]at Oq
   rotate_left
   rotate_left
   rw[if_pos he]at Oq
   injection he with h1 h2
   subst h1 h2
   all_goals
   go_wp2_with fail
   go_region_held3 (fun w'=>w'.cell? (ad w.heap.size 0)=some (.pointer (some (ad bb 0)))/\w'.cell? (ad bb 11)=some (.slice a s.now.rules.length ca)/\w'.cell? (ad bb 12)=some (.slice b s.now.zones.length cb)/\w'.cell? (ad bb 13)=some (.slice c s.now.links.length cc)/\w'.cell? (ad bb 14)=some (.map (some nm))/\w'.cell? (ad bb 15)=some (.slice d s.was.rules.length cd)/\w'.cell? (ad bb 16)=some (.slice e s.was.zones.length ce)/\w'.cell? (ad bb 17)=some (.slice f s.was.links.length cf)/\w'.cell? (ad bb 18)=some (.map (some wm))/\w'.cell? (ad wa.heap.size 0)=some (iv x.id)/\w'.cell? (ad wa.heap.size 1)=some (.string x.name)/\w'.cell? (ad wa.heap.size 2)=some (.string x.zone)/\w'.cell? (ad wa.heap.size 3)=some (iv x.wall)/\w'.cell? (ad wa.heap.size 4)=some (iv x.gap)/\w'.cell? (ad wa.heap.size 5)=some (iv x.fold)) (go_keep) (first|(go_at_call 104;have Vz:=hg4;refine(Br w4 Bk).mono ?_;rintro q w5 ⟨rfl,Nl,xX⟩;have Vp:=Nl.cell0;have Up:=Nl.book.n0;have Uq:=Nl.book.n1;have Ur:=Nl.book.n2;have Us:=Nl.book.n3;have Ut:=Nl.book.w1;have Uu:=Nl.book.w2;have Uv:=Nl.book.w3;have Uw:=Nl.book.w4;have Mh:=xX.cell De (by simp;omega);have Mi:=xX.cell Di (by simp;omega);have Mj:=xX.cell Dk (by simp;omega);have Mk:=xX.cell Dm (by simp;omega);have Mm:=xX.cell Do (by simp;omega);have Mn:=xX.cell Dq (by simp;omega))|(go_at_call 104;refine TO.mono ?_;rintro q w4 ⟨rfl,Bk,hg4⟩;have Mu:=Bk.cell0;have TV:=Bk.book.n0;have TX:=Bk.book.n1;have TZ:=Bk.book.n2;have Ug:=Bk.book.n3;have Uh:=Bk.book.w1;have Um:=Bk.book.w2;have Un:=Bk.book.w3;have Uo:=Bk.book.w4;have De:=hg4.cell UN (by simp;omega);have Di:=hg4.cell UO (by simp;omega);have Dk:=hg4.cell UP (by simp;omega);have Dm:=hg4.cell UR (by simp;omega);have Do:=hg4.cell US (by simp;omega);have Dq:=hg4.cell UT (by simp;omega)))
   all_goals
    have Hm:=hidP Nl
    have Vu:IntKind.i64.wrap (((cntE (momD s.was) (momD s.now) ((waitE s).take j):Nat):Int)+1)=((cntE (momD s.was) (momD s.now) ((waitE s).take j):Nat):Int)+1:=by rw[IntKind.wrap_i64];omega
    clear Bk Nl hg4 xX TO Br Mu Vp Vq Ux TV Up Uy TX Uq Uz TZ Ur UA Ug Us UB Uh Ut UC Um Uu UD Un Uv UE Uo Uw UN De Mh UO Di Mi UP Dk Mj UR Dm Mk US Do Mm UT Dq Mn TG TH TI TJ TK TL
    go_wp2
    go_roundw
    case rel=>exact⟨j+1,by go_num,by omega,by rw[Oq.out];simp,by rw[show k+2*(j+1)=k+2*j+1+1 by omega];exact Hm⟩
    case measure=>simp[intOf];omega
  ·obtain rfl:j=mm:=by omega
   have vC:=HI.out
   have UL:Hid ((waitE s).take pv=(waitE s).take j):=by
    simp only[Hid]
    by_cases h:pv<=NW
    ·rw[show j=pv by omega]
    ·rw[List.take_of_length_le (by rw[Oo.out];omega),List.take_of_length_le (by rw[Oo.out];omega)]
   have PG:bb≠lb:=not_in_map (live_map vC.live) vC.book.cur
   have i9:=vC.live.lt
   have Vx:=vC.book.bel.size
   have ja:w.heap.size<wa.heap.size:=(Array.getElem?_eq_some_iff.mp vC.box).1
   have y0:=vC.cell0
   have VA:bb≠w.heap.size:=by omega
   have VC:w.heap.size≠bb:=by omega
   clear HI TE
   by_cases Tt:NW<=pv
   ·have jM:Hid (stB s pv=setS s):=if_pos (by rw[Oo.out];exact Tt)
    obtain rfl:j=NW:=by omega
    have xO:=impl_settle vC.book n5
    go_wp2_with fail
    refine xO.mono ?_
    rintro q w3 ⟨rfl,sC,Tz,bM,ax⟩
    have EZ:BookE s (setS s) Qq w3 bb w.heap.size n (some (ad bb 0)):=⟨⟨lb,a1,a2,a3,none,none,none,a8,a9,c1,c2,c3,0,0,0,c8,c9,nm,Tz,k+2*j,w0,B,M1,M2,M3,a,b,c,none,none,none,ca,cb,cc,0,0,0,rfl,vC.live.kept sC (by simpa using Ne.symm PG),ax,by omega,bg,HE.out.1.of_below bg,HE.out.2.1.below bg,rel0_at _,⟨n1,by omega,n5,by omega⟩,⟨oG,rel0_right,ok.now,rel0_ok⟩,⟨m1,m2,m3,m4⟩,HR.out.1,RelC.nil w0 M1 M2 m2,HR.out.2.2⟩,(sC.block _ ja (by simp;omega)).trans vC.box,rfl⟩
    have Vm:=sC.size
    clear xO vC ax sC y0 HR HE
    obtain⟨p8,i8,d8,x9,Oz⟩:=(EZ.below (jab w3)).done hL
    have y0:=(EZ.below (jab w3)).cell0
    clear EZ
    go_wp2_with fail
    go_region_held3 (fun w'=>w'.cell? (ad w.heap.size 0)=some (.pointer (some (ad bb 0)))) (go_keep) ((go_at_call 61;refine Oz.mono ?_;rintro q w9 ⟨p9,d9,rfl,Yt,z9,f9,pY⟩;have z0:w9.cell? (ad w.heap.size 0)=some (.pointer (some (ad bb 0))):=by simp[World.cell?,Yt]))
    all_goals
     go_wp2
     go_ret
     exact⟨by unfold folN;rw[UL.out];rfl,by unfold folS;rw[jM.out];exact pY⟩
   ·have iL:1<=j:=by omega
    obtain⟨x,hx⟩:∃x,(waitE s)[j-1]? =some x:=⟨_,lgg (by rw[Oo.out];omega)⟩
    have jM:Hid (stB s pv=⟨s.tx,s.now,s.was,x.id+1,s.vs,s.ix⟩):=by
     have h:¬(waitE s).length<=pv:=by rw[Oo.out];exact Tt
     simp only[Hid]
     unfold stB
     rw[if_neg h,wait_last (by rw[show pv-1=j-1 by omega];exact hx) P6 h]
    have Vo:=hid x (List.mem_filter.mp (lmg hx)).1
    have KS:IntKind.i64.wrap (x.id+1)=x.id+1:=by rw[IntKind.wrap_i64];omega
    obtain⟨rb,ro,rfl,hc⟩:=vC.row.at (i:=j-1) (r:=x.cs) (by rw[lgm,hx];rfl)
    have c0:wa.cell? (ad rb (ro+(j-1)*6))=some (iv x.id):=hc 0 _ rfl
    have j1:(j:Int)-1=((j-1:Nat):Int):=by omega
    have j2:((j-1:Nat):Int)<(j:Int):=by omega
    have j3:(0:Int)<=((j-1:Nat):Int):=by omega
    have j4:((j:Int)==(NW:Int))=false:=by simp;omega
    have x7:=vC.book.cur
    have f7:=vC.book.free 7
    have ax:=vC.book.turn n5 (x.id+1)
    have sC:=jem wa bb 7 (iv (x.id+1))
    have EZ:BookE s ⟨s.tx,s.now,s.was,x.id+1,s.vs,s.ix⟩ Qq (wa.setCell (ad bb 7) (iv (x.id+1))) bb w.heap.size n (some (ad bb 0)):=⟨⟨lb,a1,a2,a3,a4,a5,a6,a8,a9,c1,c2,c3,c4,c5,c6,c8,c9,nm,wm,k+2*j,w0,B,M1,M2,M3,a,b,c,d,e,f,ca,cb,cc,cd,ce,cf,rfl,vC.live.kept sC (by simpa using Ne.symm PG),ax,by omega,bg,HE.out.1.of_below bg,HE.out.2.1.below bg,HE.out.2.2.below bg,⟨n1,n2,n5,by omega⟩,⟨oG,dC,ok.now,ok.was⟩,⟨m1,m2,m3,m4⟩,HR.out.1,HR.out.2.1,HR.out.2.2⟩,(sC.block _ ja (by simp;omega)).trans vC.box,rfl⟩
    clear vC ax sC HR HE hc hx
    go_wp2_with fail
    go_region
    have EZ:=EZ.below (jab _)
    generalize (wa.setCell (ad bb 7) (iv (x.id+1))).drew=w3 at *
    obtain⟨p8,i8,d8,x9,Oz⟩:=(EZ.below (jab w3)).done hL
    have y0:=(EZ.below (jab w3)).cell0
    clear EZ
    go_wp2_with fail
    go_region_held3 (fun w'=>w'.cell? (ad w.heap.size 0)=some (.pointer (some (ad bb 0)))) (go_keep) ((go_at_call 61;refine Oz.mono ?_;rintro q w9 ⟨p9,d9,rfl,Yt,z9,f9,pY⟩;have z0:w9.cell? (ad w.heap.size 0)=some (.pointer (some (ad bb 0))):=by simp[World.cell?,Yt]))
    all_goals
     go_wp2
     go_ret
     exact⟨by unfold folN;rw[UL.out];rfl,by unfold folS;rw[jM.out];exact pY⟩
end
section
open Go.RowKit Go.ChangeMaps Go.MapKept Go.WideMaps Go.Sort
structure BatP(s:StoreD)(pv:Int)(Qq:World)(x:Option Addr)(q:Ending)(w':World):Prop where
 ex:(∃c,c≠0/\batC s pv=some c/\q=.returned (.tuple #[iv 0,iv c]))\/(batC s pv=none/\q=.returned (.tuple #[iv (folN s pv.toNat),iv 0])/\BAddP (folS s pv.toNat) Qq x (.returned (.tuple #[])) w')
 bel:Bw Qq w'
theorem impl_batch(s:StoreD)(ok:Zr s)(pv:Int)(Qq w:World)(x:Option Addr)(hK:BookC s Qq w x)(hL:(jan s.vs).length<=30)(hid:∀x∈jan s.vs,1<=x.id/\x.id<=1000000):
  Cl 26 #[.pointer x,iv pv] w (BatP s pv Qq x):=by
 have hF:=fun m h1 h2=>impl_follow s ok m h1 h2 Qq w x hK hL hid
 obtain⟨bb,c7,hx,hB⟩:∃bb,w.cell? (ad bb 7)=some (iv s.cur)/\x=some (ad bb 0)/\Bw Qq w:=by
  obtain⟨bb,lb,n,a1,a2,a3,a4,a5,a6,a8,a9,c1,c2,c3,c4,c5,c6,c8,c9,nm,wm,k,w0,B,a,b,c,d,e,f,ca,cb,cc,cd,ce,cf,hx,hM,hn,F5,hk,bg,_⟩:=hK.ex
  exact⟨bb,F5.cur,hx,bg.trans (F5.bel.mono bg.size)⟩
 subst hx
 clear hK
 by_cases h1:1<=pv
 ·by_cases h2:pv<=1000
  ·by_cases h3:s.cur=0
   ·have HC:Hid (batC s pv=some 10):=by simp[Hid,batC,h1,h2,h3]
    have g1:¬pv<1:=by omega
    have g2:¬1000<pv:=by omega
    rw[h3]at c7
    unfold Cl;go_in
    go_wp2
    go_ret2
    exact⟨.inl ⟨10,by omega,HC.out,rfl⟩,hB⟩
   ·have HC:Hid (batC s pv=none):=by simp[Hid,batC,h1,h2,h3]
    have g1:¬pv<1:=by omega
    have g2:¬1000<pv:=by omega
    have g3:(s.cur==0)=false:=by simpa using h3
    obtain⟨m,rfl⟩:∃m:Nat,pv=m:=⟨pv.toNat,by omega⟩
    have ch:=hF m (by omega) (by omega)
    clear hF
    unfold Cl;go_in
    go_wp2_with fail
    refine ch.mono ?_
    rintro q w2 ⟨rfl,hP⟩
    go_wp2
    go_ret2
    exact⟨.inr ⟨HC.out,rfl,hP⟩,hP.bel⟩
  ·have HC:Hid (batC s pv=some 1):=by simp[Hid,batC,h2]
   have g1:¬pv<1:=by omega
   have g2:1000<pv:=by omega
   unfold Cl;go_in
   go_wp2
   go_ret2
   exact⟨.inl ⟨1,by omega,HC.out,rfl⟩,hB⟩
 ·have HC:Hid (batC s pv=some 1):=by simp[Hid,batC,h1]
  have g1:pv<1:=by omega
  unfold Cl;go_in
  go_wp2
  go_ret2
  exact⟨.inl ⟨1,by omega,HC.out,rfl⟩,hB⟩
def batD(s:StoreD)(pv:Int):StoreD × Int × Int:=if storeI s=true then(match batC s pv with
 |some c=>(zeroS,0,c)
 |none=>(folS s pv.toNat,folN s pv.toNat,0))else(zeroS,0,1)
theorem impl_Batch(s:StoreD)(v:Value)(pv:Int)(w:World)(hE:Zx w)(hv:Jd w v s)(ok:Zr s):
  Cl 7 #[v,iv pv] w (OutP (batD s pv).1 (batD s pv).2.1 (batD s pv).2.2 w):=by
 have dQ:=hv
 obtain⟨a,b,c,d,e,f,va,ia,ca,cb,cc,cd,ce,cf,cv,ci,rfl,_,_,_,_,_,_⟩:=hv.form
 obtain⟨w0,KR,ag,A0,R0,z0⟩:=two_out w (stA s a b c d e f va ia ca cb cc cd ce cf cv ci)
 have hO:=impl_openedC j29 s _ _ (hE.of_below ag) (dQ.below ag) ok
 obtain⟨x0,x1,x2,x3,x4,x5,x6,x7,x8,x9⟩:=A0.ten
 have lQ:=hidP R0
 have E7:=hidP ag
 have SR:=hidP z0
 clear hv dQ hE A0 R0 ag z0
 cases hs:storeI s
 case false=>
  have HD:Hid (batD s pv=(zeroS,0,1)):=by simp[Hid,batD,hs]
  unfold Cl;go_in
  go_wp2_with fail
  refine hO.mono ?_
  rintro q w3 hP
  obtain⟨xb,rfl,_⟩:=hP.ex
  rw[hs]
  have ar:=hP.bel
  have l3:=ar.size
  rw[SR.out]at l3
  have ax:=qtr E7.out ar
  have R3:=lQ.out.below ar
  have xO:=StC.nil w3 (w.heap.size+1+1) w3.heap.size l3
  clear hO hP ar
  obtain⟨r0,r1,r2,r3,r4,r5,r6,r7,r8,r9,SN,SO⟩:=R3.twC
  obtain⟨f0,f1,f2,f3,f4,f5,f6,f7,f8,f9,SJ,SK⟩:=R3.twF
  obtain⟨W,hW,⟨t0,t1,t2,t3,t4,t5,t6,t7,t8,t9,wJ,Qy⟩,T3,Gr,J8⟩:=R3.finZ 1
  have yA:=hidP (J8 _ _ (by omega) ax)
  have SQ:=hidP (((xO.touch T3 (fun b h1 _ h2=>by omega)).wideS (show w.heap.size<=_ by omega) (Nat.le_of_eq Gr.symm)))
  clear J8 R3 T3 Gr xO ax
  go_wp2
  exact bpr (v:=.agg #[iv 0,nS,nS,nS,nS,nS,nS,iv 0,nS,nS,iv 0,iv 1]) (by simp[results,Tryz.results7,go_sem,t0,t1,t2,t3,t4,t5,t6,t7,t8,t9,wJ,Qy]) rfl (by rw[HD.out];exact⟨⟨none,none,none,none,none,none,none,none,0,0,0,0,0,0,0,0,rfl,SQ.out⟩,yA.out⟩)
 case true=>
  obtain⟨p1,_,p4,p5⟩:=store_parts hs
  have SF:∀e∈jan s.vs,1<=e.id/\e.id<=1000000:=fun e he=>by
   obtain⟨v,hv,rfl⟩:=live_ver (((jga s.vs).mem e).mp he)
   exact j23 p4 v hv
  have Tv:Hid (batD s pv=(match batC s pv with
   |some c=>(zeroS,0,c)
   |none=>(folS s pv.toNat,folN s pv.toNat,0))):=by simp[Hid,batD,hs]
  have AV:=fun W x hK=>impl_batch s ok pv w0 W x hK p5 SF
  clear SF
  unfold Cl;go_in
  go_wp2_with fail
  refine hO.mono ?_
  rintro q w1 hP
  obtain⟨xb,rfl,hK⟩:=hP.ex
  have hK:=hK hs
  rw[hs]
  clear hO hP hs
  go_wp2_with fail
  refine(AV _ _ hK).mono ?_
  rintro q w2 iB
  have ac:=iB.bel
  have l2:=ac.size
  rw[SR.out]at l2
  rcases iB.ex with⟨co,kA,ww,rfl⟩|⟨ww,rfl,hA⟩
  ·have HD:Hid (batD s pv=(zeroS,0,co)):=by simp only[Hid];rw[Tv.out,ww]
   have sj:=impl_outE 0 co kA xb w2
   clear Tv AV iB hK ww p1 p4 p5
   go_wp2_with fail
   refine sj.mono ?_
   rintro q w3 ⟨rfl,ar⟩
   have n9:=qtr ac ar
   have l3:=n9.size
   rw[SR.out]at l3
   have ax:=qtr E7.out n9
   have R3:=lQ.out.below n9
   have xO:=StC.nil w3 (w.heap.size+1+1) w3.heap.size l3
   clear ar n9 ac
   obtain⟨r0,r1,r2,r3,r4,r5,r6,r7,r8,r9,SN,SO⟩:=R3.twC
   obtain⟨f0,f1,f2,f3,f4,f5,f6,f7,f8,f9,SJ,SK⟩:=R3.twF
   obtain⟨W,hW,⟨t0,t1,t2,t3,t4,t5,t6,t7,t8,t9,wJ,Qy⟩,T3,Gr,J8⟩:=R3.finZ co
   have yA:=hidP (J8 _ _ (by omega) ax)
   have SQ:=hidP (((xO.touch T3 (fun b h1 _ h2=>by omega)).wideS (show w.heap.size<=_ by omega) (Nat.le_of_eq Gr.symm)))
   clear J8 R3 T3 Gr xO ax
   go_wp2
   exact bpr (v:=.agg #[iv 0,nS,nS,nS,nS,nS,nS,iv 0,nS,nS,iv 0,iv co]) (by simp[results,Tryz.results7,go_sem,t0,t1,t2,t3,t4,t5,t6,t7,t8,t9,wJ,Qy]) rfl (by rw[HD.out];exact⟨⟨none,none,none,none,none,none,none,none,0,0,0,0,0,0,0,0,rfl,SQ.out⟩,yA.out⟩)
  ·have HD:Hid (batD s pv=(folS s pv.toNat,((folN s pv.toNat:Nat):Int),0)):=by simp only[Hid];rw[Tv.out,ww]
   obtain⟨bb,a1,a2,a3,a4,a5,a6,a8,a9,c1,c2,c3,c4,c5,c6,c8,c9,B,U,rfl,hX,h7,Yo,dr,Rf⟩:=hA.ex
   rw[SR.out]at dr
   generalize folS s pv.toNat=D at *
   generalize ((folN s pv.toNat:Nat):Int)=m at *
   have Re:=impl_outK D a1 a2 a3 a4 a5 a6 a8 a9 c1 c2 c3 c4 c5 c6 c8 c9 m bb w2 hX h7
   have Z6:=hidP Yo
   clear Tv AV iB hK ww p1 p4 p5 hA hX h7 Yo
   go_wp2_with fail
   refine Re.mono ?_
   rintro q w3 ⟨rfl,ar⟩
   have n9:=qtr ac ar
   have l3:=n9.size
   rw[SR.out]at l3
   have ax:=qtr E7.out n9
   have R3:=lQ.out.below n9
   have xO:=(Z6.out.below ar).wideS dr (Nat.le_trans Rf ar.size)
   obtain⟨r0,r1,r2,r3,r4,r5,r6,r7,r8,r9,SN,SO⟩:=R3.twC
   obtain⟨f0,f1,f2,f3,f4,f5,f6,f7,f8,f9,SJ,SK⟩:=R3.twF
   obtain⟨W,hW,⟨t0,t1,t2,t3,t4,t5,t6,t7,t8,t9,wJ,Qy⟩,T3,Gr,J8⟩:=R3.fin (iv D.tx) (.slice a1 D.now.rules.length c1) (.slice a2 D.now.zones.length c2) (.slice a3 D.now.links.length c3) (.slice a4 D.was.rules.length c4) (.slice a5 D.was.zones.length c5) (.slice a6 D.was.links.length c6) (iv D.cur) (.slice a8 D.vs.length c8) (.slice a9 D.ix.length c9) (iv m) (iv 0)
   have yA:=hidP (J8 _ _ (by omega) ax)
   have SQ:=hidP (((xO.touch T3 (fun b h1 _ h2=>by omega)).wideS (show w.heap.size<=_ by omega) (Nat.le_of_eq Gr.symm)))
   clear J8 R3 T3 Gr xO ax ar n9 ac
   go_wp2
   exact bpr (v:=.agg #[iv D.tx,.slice a1 D.now.rules.length c1,.slice a2 D.now.zones.length c2,.slice a3 D.now.links.length c3,.slice a4 D.was.rules.length c4,.slice a5 D.was.zones.length c5,.slice a6 D.was.links.length c6,iv D.cur,.slice a8 D.vs.length c8,.slice a9 D.ix.length c9,iv m,iv 0]) (by simp[results,Tryz.results7,go_sem,t0,t1,t2,t3,t4,t5,t6,t7,t8,t9,wJ,Qy]) rfl (by rw[HD.out];exact⟨⟨a1,a2,a3,a4,a5,a6,a8,a9,c1,c2,c3,c4,c5,c6,c8,c9,rfl,SQ.out⟩,yA.out⟩)
