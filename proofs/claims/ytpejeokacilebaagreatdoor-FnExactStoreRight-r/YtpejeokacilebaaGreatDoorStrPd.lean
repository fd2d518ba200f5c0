import Derived.Test.YtpejeokacilebaaGreatDoorTabPd
import Derived.RangeFuncNested
import Derived.RangeFuncBound
import Derived.Shelf.RegionOpen
import Derived.OwnWalkIn
import Derived.LoopNIn
import Derived.LoopIn
set_option maxRecDepth 100000
set_option maxHeartbeats 0
set_option linter.unusedSimpArgs false
namespace Go.Proofs.YtpejeokacilebaaGreatDoor
section
open Go.RowKit Go.Shelf
attribute [local go_sem] Oper.semAt_some
structure StrD where
 first:Int
 last:Int
 ahead:Int
 own:Int
def StrD.v(s:StrD):Value:=.agg #[iv s.first,iv s.last,iv s.ahead,iv s.own]
def StrD.ok(s:StrD):Bool:=isB s.first (-62135596800) 253402300799&&(isB s.last (-62135596801) 253402300799&&(isB s.ahead (-100000) 100000&&isB s.own (-100000) 100000))
abbrev StrK:={ s:StrD // s.ok=true }
def jh3(l:List TurnD)(k:Nat):StrD:=⟨(l[k]?.getD jmw).at_,(match l[k+1]? with|some t=>t.at_-1|none=>253402300799),(l[k-1]?.getD jmw).offset,(l[k]?.getD jmw).offset⟩
def strK(l:List TurnD)(k:Nat):StrK:=if h:(jh3 l k).ok=true then⟨jh3 l k,h⟩else⟨⟨0,0,0,0⟩,by decide⟩
theorem jnl{l:List TurnD}(hT:Js l){x:TurnD}(hx:x∈l):isB x.offset (-100000) 100000=true:=by
 have:=hT.one x hx
 unfold jb8 at this
 rw[bat]at this
 exact this.1
theorem jpe{l:List TurnD}(hT:Js l){k:Nat}{x:TurnD}(hx:l[k]? =some x): -62135596800<=x.at_:=by
 have hl:=hT.len
 obtain⟨f,hf⟩:∃r,l[0]? =some r:=⟨_,lgg (by omega)⟩
 have:=jpk hT.up (Nat.zero_le k) hf hx
 rw[hT.first f hf]at this
 exact this
theorem jym{l:List TurnD}(hT:Js l){k:Nat}(hk:k<l.length):(jh3 l k).ok=true:=by
 obtain⟨x,hx⟩:=qgg hk
 obtain⟨p,hp⟩:∃x,l[k-1]? =some x:=⟨_,lgg (by omega)⟩
 have h1:=jnl hT (lmg hx)
 have h2:=jnl hT (lmg hp)
 have h3:=hT.top k x hx
 have h4:=jpe hT hx
 unfold StrD.ok jh3
 rw[hx,hp]
 simp only[Option.getD_some,h1,h2,Bool.and_true]
 rw[jma h4 h3,Bool.true_and]
 cases hy:l[k+1]? with
 |none=>exact jma (by show(-62135596801:Int)<=253402300799;omega) (by show(253402300799:Int)<=253402300799;omega)
 |some y=>exact jma (by have:=jpe hT hy;simp only;omega) (by have:=hT.top _ y hy;simp only;omega)
theorem jdg{l:List TurnD}(hT:Js l){k:Nat}(hk:k<l.length):(strK l k).1=jh3 l k:=by
 unfold strK
 rw[dif_pos (jym hT hk)]
def jat(l:List TurnD)(k:Nat):List StrK:=(List.range k).map (strK l)
theorem uptoS_succ(l:List TurnD)(k:Nat):jat l (k+1)=jat l k++[strK l k]:=by simp[jat,List.range_succ]
theorem jd0(l:List TurnD)(k:Nat):(jat l k).length=k:=by simp[jat]
def Zv(W W':World):Prop:=∀(k:Nat) (t:TypeId) (cs:Array Value),(t=138\/t=167)->W.heap[k]? =some (.cells cs t (0,0))->W'.heap[k]? =some (.cells cs t (0,0))
def KpS(n₀:Nat)(W W':World):Prop:=Below n₀ W W'/\Zv W W'
theorem j30{n₀:Nat}{A B C:World}(h:KpS n₀ A B)(k:KpS n₀ B C):KpS n₀ A C:=⟨h.1.trans k.1,fun i t cs ht hi=>k.2 i t cs ht (h.2 i t cs ht hi)⟩
theorem j31{n₀:Nat}{w:World}(hn:n₀<=w.heap.size)(W:World)(l:Nat)(o o':Obj)(hl:w.heap.size<=l)(h:W.heap[l]? =some o)(hc:o.isCells=false)(hw:o.isWalk=false):KpS n₀ W (W.putObj l o'):=
 ⟨belowK_b hn W l o o' hl h hc hw,fun k t cs _ hk=>by
  refine(World.putObj_heap_other fun e=>?_).trans hk
  subst e
  rw[h]at hk
  cases hk
  cases hc⟩
theorem Zv.refl(W:World):Zv W W:=fun _ _ _ _ h=>h
theorem Zv.alloc(W:World)(o:Obj):Zv W (W.alloc o):=fun k _ _ _ h=>(Below.heap_alloc W o k (Array.getElem?_eq_some_iff.1 h).1).trans h
theorem Zv.trans{A B C:World}(h:Zv A B)(k:Zv B C):Zv A C:=fun i t cs ht hi=>k i t cs ht (h i t cs ht hi)
theorem Zv.set{W:World}{b:Nat}{tt:Array Value}{t0:TypeId}(hb:W.heap[b]? =some (.cells tt t0 (0,0)))(h1:t0≠138)(h2:t0≠167)(i:Nat)(v:Value):Zv W (W.setCell (ad b i) v):=fun k t cs ht hk=>by
 refine(Below.heap_setCell W (ad b i) v k fun e=>?_).trans hk
 have e:k=b:=by first|exact e|exact e.symm
 subst e
 rw[hb]at hk
 cases hk
 rcases ht with h|h
 ·exact h1 h
 ·exact h2 h
theorem jgm(F:Fence)(n:Nat)(h:F.fn 211)(lI:F.round=none)(a:Option Addr)(len cap:Nat)(w:World):
  CallsIn F n Tryz.prog 211 #[.agg #[.slice a len cap]] w fun e w'=>e=.returned (.func (.func 236) #[] #[.pointer (some (ad w.heap.size 0))])/\w'=w.alloc (.cells #[.slice a len cap] 138):=by
 refine callsIn_of_wp Tryz.func211 rfl h ?_ lI
 simp only[Tryz.ntmps211,List.size_toArray,List.length_cons,List.length_nil,Nat.reduceAdd,Nat.reduceSub,Array.replicate_succ,Array.replicate_zero,List.push_toArray,List.append_toArray,List.nil_append,List.cons_append]
 gi_wp2
 go_ret
 exact⟨rfl,rfl⟩
end
section
open Go.RowKit Go.Shelf
attribute [local go_sem] Oper.semAt_some
theorem jph{β:Type}{B:Nat}{J:β->World->Prop}(h:AbidesFrom B J){s:β}{W:World}(hs:J s W)(o:Obj):J s (W.alloc o):=
 h s W _ none hs (World.grownBy_alloc W o none) (fun r e=>by cases e)
theorem j1q (F:Fence) (n:Nat) (h:F.fn 236) (lI:F.round=none) (hn:1<=n) (q Bs n₀ b o cap:Nat) (l:List TurnD) (hT:Js l) (hb:b<n₀) (J Jx:List StrK->World->Prop) (W:World) (Bn:AbidesFrom W.heap.size J) (Gc:n₀<=W.heap.size)
  (hY:∀bK x W,J bK W->bK.length<l.length->YieldAt F (n-1) Tryz.prog q #[x.1.v] W fun e W'=>
   (e=.returned (.bool true)/\J (bK++[x]) W'/\KpS n₀ W W')\/(e=.returned (.bool false)/\Jx (bK++[x]) W'))
  (lY:W.heap[Bs]? =some (.cells #[.slice (some (ad b o)) l.length cap] 138 (0,0))) (hA:Za W (some (ad b o)) 4 (l.map TurnD.cs)) (h0:J [] W):
  CallsIn F n Tryz.prog 236 #[.func (.yield q) #[] #[],.pointer (some (ad Bs 0))] W fun e W'=>(∃v,e=.returned v)/\
   ((∃ys,ys=jat l l.length/\J ys W')\/(∃bK,(∃k,k<=l.length/\bK=jat l k)/\Jx bK W')):=by
 have au:=hT.len
 obtain⟨f,hf⟩:∃x,l[0]? =some x:=⟨_,lgg (by omega)⟩
 have tt:∀(wr:World),wr.heap[Bs]? =some (.cells #[.slice (some (ad b o)) l.length cap] 138 (0,0))->wr.cell? (ad Bs 0)=some (.slice (some (ad b o)) l.length cap):=fun wr h=>by simp[World.cell?,h]
 have aT:∀(wr:World),Below n₀ W wr->∀(k:Nat) (x:TurnD),l[k]? =some x->wr.cell? (ad b (o+k*4))=some (iv x.at_)/\wr.cell? (ad b (o+k*4+1))=some (iv x.offset)/\wr.cell? (ad b (o+k*4+2))=some (iv x.save)/\wr.cell? (ad b (o+k*4+3))=some (.string x.abbr):=fun wr hB k x hx=>by
  obtain⟨b',o',he,hc⟩:=hA.at (i:=k) (r:=x.cs) (by rw[lgm,hx];rfl)
  injection he with he
  injection he with u1 u2
  subst u1 u2
  exact⟨(hB.cell (p:=(ad b _)) hb).trans (hc 0 _ rfl),(hB.cell (p:=(ad b _)) hb).trans (hc 1 _ rfl),(hB.cell (p:=(ad b _)) hb).trans (hc 2 _ rfl),(hB.cell (p:=(ad b _)) hb).trans (hc 3 _ rfl)⟩
 have dg:W.cell? (ad b (o+1))=some (iv f.offset):=by simpa using (aT W (brf _ _) 0 f hf).2.1
 have cB:=tt W lY
 refine callsIn_of_wp Tryz.func236 rfl h ?_ lI
 simp only[Tryz.ntmps236,List.size_toArray,List.length_cons,List.length_nil,Nat.reduceAdd,Nat.reduceSub,Array.replicate_succ,Array.replicate_zero,List.push_toArray,List.append_toArray,List.nil_append,List.cons_append]
 gi_wp2
 clear dg cB
 gi_loopw [3,15] (fun s3 rh wr=>∃k:Nat,k<=l.length/\rh=iv k/\s3=iv (l[k-1]?.getD jmw).offset/\J (jat l k) wr/\Below n₀ W wr/\wr.heap[Bs]? =some (.cells #[.slice (some (ad b o)) l.length cap] 138 (0,0)))
  (fun _ rh _=>l.length-(intOf rh).toNat)
 case atStart=>exact⟨0,Nat.zero_le _,rfl,by rw[hf];rfl,h0,brf _ _,lY⟩
 case round=>
  obtain⟨k,hk,rfl,rfl,Fi,hB,aK⟩:=hrel
  have cB:=tt wr aK
  by_cases hlt:k<l.length
  ·obtain⟨x,hx⟩:=qgg hlt
   obtain⟨c0,c1,c2,c3⟩:=aT wr hB k x hx
   have Pb:=hB.size
   have hsz:n₀<=wr.heap.size:=by omega
   have oI:=jdg hT hlt
   have qt:=uptoS_succ l k
   have JB:=jph Bn Fi (.cells #[iv x.at_,iv x.offset,iv x.save,.string x.abbr] 167)
   have qR:=hY _ (strK l k) _ JB (by rw[jd0];exact hlt)
   rw[oI]at qR
   unfold jh3 StrD.v at qR
   simp only[hx,Option.getD_some]at qR
   have hH:(wr.alloc (.cells #[iv x.at_,iv x.offset,iv x.save,.string x.abbr] 167)).heap[wr.heap.size]? =some (.cells #[iv x.at_,iv x.offset,iv x.save,.string x.abbr] 167 (0,0)):=World.alloc_heap_new wr _
   have iy:Below n₀ W (wr.alloc (.cells #[iv x.at_,iv x.offset,iv x.save,.string x.abbr] 167)):=hB.alloc hsz _
   have pr:=Zv.alloc wr (.cells #[iv x.at_,iv x.offset,iv x.save,.string x.abbr] 167) Bs 138 _ (.inl rfl) aK
   have NX:=tt _ pr
   generalize eK:(l[k-1]?.getD jmw).offset=ah at *
   have HX:Hid ((l[k+1-1]?.getD jmw).offset=x.offset):=by simp only[Hid];rw[Nat.add_sub_cancel,hx];rfl
   by_cases hlt2:k+1<l.length
   ·obtain⟨y,hy⟩:∃y,l[k+1]? =some y:=⟨_,lgg hlt2⟩
    have d0:=(aT _ iy (k+1) y hy).1
    have y1:=hT.top _ y hy
    have y2:=jpe hT hy
    simp only[hy]at qR
    obtain⟨fn,tmps,assign,body,KZ,hR⟩:=qR
    clear eK hx hy hf aT hY oI
    gi_wp2
    refine hR.mono ?_
    rintro e W3 (⟨rfl,Bm,oC⟩|⟨rfl,pL⟩)
    ·have Bi:=oC.2 _ _ _ (.inr rfl) hH
     have g1:W3.cell? (ad wr.heap.size 1)=some (iv x.offset):=by simp[World.cell?,Bi]
     have ax:=iy.trans oC.1
     have pp:=oC.2 _ _ _ (.inl rfl) pr
     gi_wp2
     go_roundw
     case rel=>exact⟨k+1,by omega,by go_num,by rw[HX.out],by rw[qt];exact Bm,ax,pp⟩
     case measure=>simp[intOf];omega
    ·gi_wp2
     refine bpr (results_none rfl _ _ _) rfl ?_
     exact⟨⟨_,rfl⟩,.inr ⟨_,⟨k+1,by omega,qt.symm⟩,pL⟩⟩
   ·have hy:l[k+1]? =none:=List.getElem?_eq_none (by omega)
    simp only[hy]at qR
    obtain⟨fn,tmps,assign,body,KZ,hR⟩:=qR
    clear eK hx hy hf aT hY oI
    gi_wp2
    refine hR.mono ?_
    rintro e W3 (⟨rfl,Bm,oC⟩|⟨rfl,pL⟩)
    ·have Bi:=oC.2 _ _ _ (.inr rfl) hH
     have g1:W3.cell? (ad wr.heap.size 1)=some (iv x.offset):=by simp[World.cell?,Bi]
     have ax:=iy.trans oC.1
     have pp:=oC.2 _ _ _ (.inl rfl) pr
     gi_wp2
     go_roundw
     case rel=>exact⟨k+1,by omega,by go_num,by rw[HX.out],by rw[qt];exact Bm,ax,pp⟩
     case measure=>simp[intOf];omega
    ·gi_wp2
     refine bpr (results_none rfl _ _ _) rfl ?_
     exact⟨⟨_,rfl⟩,.inr ⟨_,⟨k+1,by omega,qt.symm⟩,pL⟩⟩
  ·obtain rfl:k=l.length:=by omega
   gi_wp2
   go_end0
   exact⟨⟨_,rfl⟩,.inl ⟨_,rfl,Fi⟩⟩
theorem jm2 (F:Fence) (n:Nat) (h:F.fn 236) (lI:F.round=none) (hn:1<=n) (Bs n₀ b o cap:Nat) (l:List TurnD) (hT:Js l) (hb:b<n₀) (w:World) (Gc:n₀<=w.heap.size)
  (hc:w.heap[Bs]? =some (.cells #[.slice (some (ad b o)) l.length cap] 138 (0,0))) (hA:Za w (some (ad b o)) 4 (l.map TurnD.cs)):
  SeqStopsK F n Tryz.prog 236 #[.pointer (some (ad Bs 0))] (fun x:StrK=>#[x.1.v]) (KpS n₀) (fun ys=>ys=jat l l.length) (fun bK=>∃k,k<=l.length/\bK=jat l k) l.length w:=fun q J Jx W hW Bn _ hY h0=>
 j1q F n h lI hn q Bs n₀ b o cap l hT hb J Jx W Bn (Nat.le_trans Gc hW.size) hY ((hW.block Bs (Array.getElem?_eq_some_iff.1 hc).1).trans hc) (hA.below hW) h0
end
section
open Go.RowKit Go.Shelf
attribute [local go_sem] Oper.semAt_some
def shownB(n:Int)(s:StrK):Bool:=decide (s.1.first<=n-s.1.own)&&decide (n-s.1.own<=s.1.last)
def jar(n:Int)(l:List StrK):List Int:=(l.filter (shownB n)).map fun s=>n-s.1.own
theorem shownL_hit{n:Int}{l:List StrK}{s:StrK}(h1:s.1.first<=n-s.1.own)(h2:n-s.1.own<=s.1.last):jar n (l++[s])=jar n l++[n-s.1.own]:=by simp[jar,shownB,h1,h2]
theorem shownL_miss1{n:Int}{l:List StrK}{s:StrK}(h1:¬s.1.first<=n-s.1.own):jar n (l++[s])=jar n l:=by
 unfold jar
 rw[List.filter_append,show [s].filter (shownB n)=[] by simp[shownB,h1],List.append_nil]
theorem shownL_miss2{n:Int}{l:List StrK}{s:StrK}(h2:¬n-s.1.own<=s.1.last):jar n (l++[s])=jar n l:=by
 unfold jar
 rw[List.filter_append,show [s].filter (shownB n)=[] by simp[shownB,h2],List.append_nil]
theorem jib(n:Int)(l:List StrK):(jar n l).length<=l.length:=by unfold jar;rw[llm];exact List.length_filter_le _ _
def jdn(l:List TurnD)(n:Int):List Int:=jar n (jat l l.length)
theorem j09:(Tryz.prog.info? 2).map (fun i=>(i.zero,i.size,i.bytes))=some (some (iv 0),1,8):=by kernel_rfl
theorem Zv.appended{W w1:World}{n₀ B:Nat}{v v':Value}{k:Nat}{xs:List Value}{tmp:Obj}(ap:W.ownsRow n₀ 2 1 v k xs)(ej:Boxed w1 B 164 v)(af:(W.alloc tmp).grownBy w1 v.ownBlock):Zv W (w1.setCell (ad B 0) v'):=by
 refine Zv.trans ?_ (Zv.set ej (by decide) (by decide) 0 v')
 intro i t cs ht hi
 have hlt:=(Array.getElem?_eq_some_iff.1 hi).1
 refine(af.block i (by simp;omega) ?_).trans ((Below.heap_alloc W tmp i hlt).trans hi)
 rcases ap.2 with⟨rfl,_⟩|⟨g,cap,cur,rfl,_,jG,_⟩
 ·simp[Value.ownBlock]
 ·intro e
  have e:i=g:=by simpa [Value.ownBlock]using e
  subst e
  rw[jG]at hi
  cases hi
  rcases ht with h|h<;>exact absurd h (by decide)
theorem jsz(F:Fence)(n:Nat)(J5:F.fn 181)(tQ:F.fn 211)(EV:F.fn 236)(lI:F.round=none)(hn:3<=n)(l:List TurnD)(v:Value)(m:Int)(hT:Js l)(m1: -62135596800<=m)(m2:m<=253402300799)(w:World)(hv:Zy w v l):
  CallsIn F n Tryz.prog 181 #[v,iv m] w fun e W'=>∃v',e=.returned v'/\W'.ownsRow w.heap.size 2 1 v' (jdn l m).length ((jdn l m).map (Value.int .i64))/\Bw w W':=by
 have h1:1<=n:=by omega
 have au:=hT.len
 obtain⟨i0,hi,aG,aH,aF⟩:=info_parts j09
 obtain⟨a,cap,rfl,hA⟩:=hv
 obtain⟨f,hf⟩:∃x,l[0]? =some x:=⟨_,lgg (by omega)⟩
 obtain⟨b,o,rfl,hd⟩:=hA.at (i:=0) (r:=f.cs) (by rw[lgm,hf];rfl)
 have mt:b<w.heap.size:=qbl (hd 0 _ rfl)
 clear hd hf
 refine callsIn_of_wp_marks Tryz.func181 rfl J5 ?_ lI
 simp only[Tryz.ntmps181,List.size_toArray,List.length_cons,List.length_nil,Nat.reduceAdd,Nat.reduceSub,Array.replicate_succ,Array.replicate_zero,List.push_toArray,List.append_toArray,List.nil_append,List.cons_append]
 gi_wp2_with (gi_at_call 211;refine(jgm F (n-1) tQ lI _ _ _ _).mono ?_;rintro e w' ⟨rfl,rfl⟩)
 obtain⟨wA,cK⟩:=qeb (((w.alloc (.cells #[.slice (some (ad b o)) l.length cap] 138)).alloc (.cells #[iv m] 2)))
 have ji:wA.heap.size=w.heap.size+1+1:=by rw[<- cK];simp
 have eX:Bw w wA:=by rw[<- cK];exact(qal w _).alloc (by simp) _
 have cM:wA.cell? (ad (w.heap.size+1) 0)=some (iv m):=by rw[<- cK];simp[go_sem]
 have bO:=Boxed.new wA 164 nS
 have bN:=Boxed.new (wA.alloc (.cells #[nS] 164)) 138 (.slice (some (ad b o)) l.length cap)
 rw[World.size_alloc,ji]at bN
 rw[ji]at bO
 have ag:Below (w.heap.size+1+1) wA ((wA.alloc (.cells #[nS] 164)).alloc (.cells #[.slice (some (ad b o)) l.length cap] 138)):=((brf _ wA).alloc (by omega) _).alloc (by simp;omega) _
 have eK:=hA.below (eX.trans (ag.mono (by omega)))
 rw[cK]
 refine wpIn_rangeFunc_ownH lI h1 (gf:=236) (lb:=#[.pointer (some (ad (w.heap.size+1+1+1) 0))]) rfl EV (enters_of Tryz.func236 (by kernel_rfl) rfl)
  (jm2 F (n-1) EV lI (by omega) (w.heap.size+1+1+1) (w.heap.size+1+1) b o cap l hT (by omega) _ (by simp;omega) bN eK) j30 (j31 (by simp;omega)) (brf _ _) (fun _=>rfl)
  (fun bK W=>(∃v,Boxed W (w.heap.size+1+1) 164 v/\W.ownsRow (w.heap.size+1+1) 2 1 v (jar m bK).length ((jar m bK).map (Value.int .i64))/\True)/\Below (w.heap.size+1+1) wA W)
  (fun _ _ _=>False)
  (OwnFrom.and (Own.from (holdsRow_own (w.heap.size+1+1) (w.heap.size+1+1) 164 2 1 (fun bK=>(jar m bK).length) (fun bK=>(jar m bK).map (Value.int .i64)) (fun _ _=>True)) _) (ownFrom_below (by omega) (by simp;omega)))
  (fun _ _ _ _ _ hs _ _=>hs)
  ⟨⟨_,bO.alloc _,World.ownsRow_nil _ _ _ _,trivial⟩,ag⟩
  (fun x a' W=>∃Bx,W.heap[Bx]? =some (.cells #[iv x.1.first,iv x.1.last,iv x.1.ahead,iv x.1.own] 272 (0,0))/\a'={ tmps:=#[.agg #[.slice (some (ad b o)) l.length cap],iv m,.pointer (some (ad w.heap.size 0)),.pointer (some (ad (w.heap.size+1) 0)),nS,.pointer (some (ad (w.heap.size+1+1) 0)),.pointer (some (ad Bx 0)),undef,.agg #[.slice (some (ad b o)) l.length cap],.func (.func 236) #[] #[.pointer (some (ad (w.heap.size+1+1+1) 0))],x.1.v,undef,undef,undef,undef,undef,undef,undef,undef,undef,undef,undef,undef,undef,undef,undef,undef,undef,undef,undef],defers:=[] })
  (fun x a' _ X Y row hs hg hr=>by
   obtain⟨Bx,k1,k2⟩:=hs
   refine⟨Bx,(hg.block Bx (Array.getElem?_eq_some_iff.1 k1).1 (fun e=>?_)).trans k1,k2⟩
   obtain⟨_,oo,ho,hc⟩:=hr Bx e.symm
   rw[k1]at ho
   cases ho
   cases hc)
  ?assign ?body ?done ?stop
 case assign=>
  rintro q bK ⟨⟨x0,x1,x2,x3⟩,hx⟩ W K ⟨⟨v,hv,ap,_⟩,hB⟩ hK
  simp only[StrD.v]at *
  gi_wp2
  exact hK _ _ ((KeepsOthers.alloc _ _).from _) ⟨(brf _ W).alloc (by have:=hB.size;omega) _,Zv.alloc _ _⟩ ⟨⟨v,hv.alloc _,ap.alloc _,trivial⟩,hB.alloc (by have:=hB.size;omega) _⟩ ⟨W.heap.size,World.alloc_heap_new W _,rfl⟩
 case body=>
  rintro q bK ⟨⟨x0,x1,x2,x3⟩,hx⟩ a' W hq ⟨r,hr⟩ ⟨⟨v,hv,ap,_⟩,hB⟩ ⟨Bx,cR,rfl⟩ hlt
  have sD:=@shownL_hit m bK ⟨⟨x0,x1,x2,x3⟩,hx⟩
  have ym:=@shownL_miss1 m bK ⟨⟨x0,x1,x2,x3⟩,hx⟩
  have yn:=@shownL_miss2 m bK ⟨⟨x0,x1,x2,x3⟩,hx⟩
  have iP:=jib m bK
  have hc:=hv.cell
  have dI:=hB.size
  have Is:W.cell? (ad (w.heap.size+1) 0)=some (iv m):=(hB.cell (p:=(ad (w.heap.size+1) 0)) (show w.heap.size+1<w.heap.size+1+1 by omega)).trans cM
  have e0:W.cell? (ad Bx 0)=some (iv x0):=by simp[World.cell?,cR]
  have e1:W.cell? (ad Bx 1)=some (iv x1):=by simp[World.cell?,cR]
  have e3:W.cell? (ad Bx 3)=some (iv x3):=by simp[World.cell?,cR]
  obtain⟨j1,j2⟩: -100000<=x3/\x3<=100000:=by
   have fm:=hx
   unfold StrD.ok at fm
   simp only[bat]at fm
   exact jax fm.2.2.2
  simp only[StrD.v]at *
  clear cR hq hr
  by_cases g1:x0<=m-x3
  ·by_cases g2:m-x3<=x1
   ·have ht:=sD g1 g2
    clear sD ym yn
    gi_wp2_with (gi_at_builtin;refine wpListIn_append_own _ rfl _ _ 164 rfl (w.heap.size+1+1) 2 i0 (iv 0) 1 8 Tryz.underlying164 hi aG aH aF rfl (by decide) _ _ _ rfl (ap.alloc _) (ad W.heap.size 0) 1 1 [iv (m-x3)] rfl rfl (cell_one_new _ _ _) (by simp[Value.oneCell']) (by unfold maxLen;omega) (by omega) (by simp;omega) ?_;intro v' w1 ao af _;obtain⟨g',fK,rfl⟩:=ownsRow_succ ao;obtain⟨ej,eQ,dC,fy,ac⟩:=hv.appended (by decide) ap (by omega) (nlr _) ao af;have sL:=Zv.appended (v':=so g' ((jar m bK).length+1) fK) ap ej af;have aX:=ej.cell;have dg:=ej.frozen)
    exact⟨fy.from _,⟨ac,sL⟩,⟨_,eQ,by rw[ht];simpa using dC,trivial⟩,hB.trans ac⟩
   ·have ht:=yn g2
    clear sD ym yn
    gi_wp2
    exact⟨KeepsFrom.refl _ _,⟨brf _ _,Zv.refl _⟩,⟨v,hv,by rw[ht];exact ap⟩,hB⟩
  ·have ht:=ym g1
   clear sD ym yn
   gi_wp2
   exact⟨KeepsFrom.refl _ _,⟨brf _ _,Zv.refl _⟩,⟨v,hv,by rw[ht];exact ap⟩,hB⟩
 case done=>
  rintro D ys W hD rfl ⟨⟨v,hv,ap,_⟩,hB⟩ hK
  have hc:=hv.cell
  gi_wp2
  refine⟨by simp,.inl ⟨_,_,rfl,run_takeDeferred hK,?_⟩⟩
  refine⟨_,results_tmp rfl _ _ _,v,rfl,?_,(eX.trans (hB.mono (by omega))).trans (belowK_b (w:=w) (nlr _) W D _ _ (by simp at hD;omega) hK rfl rfl)⟩
  have hr:=ownsRow_putObj ap (.deferred none) hK rfl
  refine⟨hr.1,?_⟩
  rcases hr.2 with h|⟨g,cap,cur,e1,e2,e3⟩
  ·exact .inl h
  ·exact .inr ⟨g,cap,cur,e1,by omega,e3⟩
 case stop=>
  rintro D c bK W _ _ h _
  exact h.elim
theorem joj(l:List TurnD)(v:Value)(m:Int)(hT:Js l)(m1: -62135596800<=m)(m2:m<=253402300799)(w:World)(hv:Zy w v l):
  Cl 181 #[v,iv m] w fun e W'=>∃v',e=.returned v'/\W'.ownsRow w.heap.size 2 1 v' (jdn l m).length ((jdn l m).map (Value.int .i64))/\Bw w W':=
 (callsIn_wide (n:=3)).1 (jsz Fence.wide 3 trivial trivial trivial rfl (by omega) l v m hT m1 m2 w hv)
