/- Packed. -/
import Derived.Test.YtofdpfpdocpbpaaGreatDoorTabPd
import Derived.RangeFuncNested
import Derived.RangeFuncBound
import Derived.RangeFuncCalls
import Derived.RangeFuncLeaves
import Derived.RangeFuncBox
import Derived.Shelf.Abstract
import Derived.Shelf.RegionOpen
import Derived.WalkKit
import Derived.OwnWalkIn
import Derived.TacticsInMore
import Derived.LoopNIn
import Derived.LoopIn
import Derived.Maps.AppendAt
set_option maxRecDepth 100000
set_option maxHeartbeats 20000000
set_option linter.unusedSimpArgs false
namespace Go.Proofs.YtofdpfpdocpbpaaGreatDoor
section
open Go.RowKit Go.Shelf
attribute [local go_sem] Oper.semAt_some
structure StrD where
 first:Int
 last:Int
 ahead:Int
 own:Int
def StrD.v(s:StrD):Value:=.agg #[.int .i64 s.first,.int .i64 s.last,.int .i64 s.ahead,.int .i64 s.own]
def StrD.ok(s:StrD):Bool:=isB s.first (-62135596800) 253402300799&&(isB s.last (-62135596801) 253402300799&&(isB s.ahead (-100000) 100000&&isB s.own (-100000) 100000))
abbrev StrK:={ s:StrD // s.ok=true }
def jpl(l:List TurnD)(k:Nat):StrD:=⟨(l[k]?.getD js2).at_,(match l[k+1]? with|some t=>t.at_-1|none=>253402300799),(l[k-1]?.getD js2).offset,(l[k]?.getD js2).offset⟩
def strK(l:List TurnD)(k:Nat):StrK:=if h:(jpl l k).ok=true then⟨jpl l k,h⟩else⟨⟨0,0,0,0⟩,by decide⟩
theorem j30{l:List TurnD}(hT:TabR l){x:TurnD}(hx:x∈l):isB x.offset (-100000) 100000=true:=by
 have:=hT.one x hx
 unfold jcd at this
 rw[Bool.and_eq_true]at this
 exact this.1
theorem jzj{l:List TurnD}(hT:TabR l){k:Nat}{x:TurnD}(hx:l[k]? =some x): -62135596800<=x.at_:=by
 have hl:=hT.len
 obtain⟨f,hf⟩:∃r,l[0]? =some r:=⟨_,List.getElem?_eq_getElem (by omega)⟩
 have:=jpg hT.up (Nat.zero_le k) hf hx
 rw[hT.first f hf]at this
 exact this
theorem j0a{l:List TurnD}(hT:TabR l){k:Nat}(hk:k<l.length):(jpl l k).ok=true:=by
 obtain⟨x,hx⟩:=qgg hk
 obtain⟨p,hp⟩:∃x,l[k-1]? =some x:=⟨_,List.getElem?_eq_getElem (by omega)⟩
 have h1:=j30 hT (List.mem_of_getElem? hx)
 have h2:=j30 hT (List.mem_of_getElem? hp)
 have h3:=hT.top k x hx
 have h4:=jzj hT hx
 unfold StrD.ok jpl
 rw[hx,hp]
 simp only[Option.getD_some,h1,h2,Bool.and_true]
 rw[jnu h4 h3,Bool.true_and]
 cases hy:l[k+1]? with
 |none=>exact jnu (by show(-62135596801:Int)<=253402300799;omega) (by show(253402300799:Int)<=253402300799;omega)
 |some y=>exact jnu (by have:=jzj hT hy;simp only;omega) (by have:=hT.top _ y hy;simp only;omega)
theorem jlu{l:List TurnD}(hT:TabR l){k:Nat}(hk:k<l.length):(strK l k).1=jpl l k:=by
 unfold strK
 rw[dif_pos (j0a hT hk)]
def jcm(l:List TurnD)(k:Nat):List StrK:=(List.range k).map (strK l)
theorem uptoS_succ(l:List TurnD)(k:Nat):jcm l (k+1)=jcm l k++[strK l k]:=by simp[jcm,List.range_succ]
theorem jg5(l:List TurnD)(k:Nat):(jcm l k).length=k:=by simp[jcm]
def Zu(W W':World):Prop:=∀(k:Nat) (t:TypeId) (cs:Array Value),(t=214\/t=304)->W.heap[k]? =some (.cells cs t (0,0))->W'.heap[k]? =some (.cells cs t (0,0))
def KpS(n₀:Nat)(W W':World):Prop:=Below n₀ W W'/\Zu W W'
theorem j9k{n₀:Nat}{A B C:World}(h:KpS n₀ A B)(k:KpS n₀ B C):KpS n₀ A C:=⟨h.1.trans k.1,fun i t cs ht hi=>k.2 i t cs ht (h.2 i t cs ht hi)⟩
theorem j9l{n₀:Nat}{w:World}(hn:n₀<=w.heap.size)(W:World)(l:Nat)(o o':Obj)(hl:w.heap.size<=l)(h:W.heap[l]? =some o)(hc:o.isCells=false)(hw:o.isWalk=false):KpS n₀ W (W.putObj l o'):=
 ⟨belowK_b hn W l o o' hl h hc hw,fun k t cs _ hk=>by
  refine(World.putObj_heap_other fun e=>?_).trans hk
  subst e
  rw[h]at hk
  cases hk
  cases hc⟩
theorem Zu.refl(W:World):Zu W W:=fun _ _ _ _ h=>h
theorem Zu.alloc(W:World)(o:Obj):Zu W (W.alloc o):=fun k _ _ _ h=>(Below.heap_alloc W o k (Array.getElem?_eq_some_iff.1 h).1).trans h
theorem Zu.trans{A B C:World}(h:Zu A B)(k:Zu B C):Zu A C:=fun i t cs ht hi=>k i t cs ht (h i t cs ht hi)
theorem Zu.set{W:World}{b:Nat}{cs0:Array Value}{t0:TypeId}(hb:W.heap[b]? =some (.cells cs0 t0 (0,0)))(h1:t0≠214)(h2:t0≠304)(i:Nat)(v:Value):Zu W (W.setCell ⟨b,i,none⟩ v):=fun k t cs ht hk=>by
 refine(Below.heap_setCell W ⟨b,i,none⟩ v k fun e=>?_).trans hk
 have e:k=b:=by first|exact e|exact e.symm
 subst e
 rw[hb]at hk
 cases hk
 rcases ht with h|h
 ·exact h1 h
 ·exact h2 h
theorem jg6(F:Fence)(n:Nat)(h:F.fn 219)(hro:F.round=none)(a:Option Addr)(len cap:Nat)(w:World):
  CallsIn F n Tryz.prog 219 #[.agg #[.slice a len cap]] w fun e w'=>e=.returned (.func (.func 258) #[] #[.pointer (some ⟨w.heap.size,0,none⟩)])/\w'=w.alloc (.cells #[.slice a len cap] 214):=by
 refine callsIn_of_wp Tryz.func219 rfl h ?_ hro
 simp only[Tryz.ntmps219,List.size_toArray,List.length_cons,List.length_nil,Nat.reduceAdd,Nat.reduceSub,Array.replicate_succ,Array.replicate_zero,List.push_toArray,List.append_toArray,List.nil_append,List.cons_append]
 gi_wp2
 go_ret
 exact⟨rfl,rfl⟩
end
section
open Go.RowKit Go.Shelf
attribute [local go_sem] Oper.semAt_some
theorem jhj{β:Type}{B:Nat}{J:β->World->Prop}(h:AbidesFrom B J){s:β}{W:World}(hs:J s W)(o:Obj):J s (W.alloc o):=
 h s W _ none hs (World.grownBy_alloc W o none) (fun r e=>by cases e)
theorem j46 (F:Fence) (n:Nat) (h:F.fn 258) (hro:F.round=none) (hn:1<=n) (q Bs n₀ b o cap:Nat) (l:List TurnD) (hT:TabR l) (hb:b<n₀) (J Jx:List StrK->World->Prop) (W:World) (hJa:AbidesFrom W.heap.size J) (hn₀:n₀<=W.heap.size)
  (hY:∀pre x W,J pre W->pre.length<l.length->YieldAt F (n-1) Tryz.prog q #[x.1.v] W fun e W'=>
   (e=.returned (.bool true)/\J (pre++[x]) W'/\KpS n₀ W W')\/(e=.returned (.bool false)/\Jx (pre++[x]) W'))
  (hBs:W.heap[Bs]? =some (.cells #[.slice (some ⟨b,o,none⟩) l.length cap] 214 (0,0))) (hA:Zd W (some ⟨b,o,none⟩) 4 (l.map TurnD.cs)) (h0:J [] W):
  CallsIn F n Tryz.prog 258 #[.func (.yield q) #[] #[],.pointer (some ⟨Bs,0,none⟩)] W fun e W'=>(∃v,e=.returned v)/\
   ((∃ys,ys=jcm l l.length/\J ys W')\/(∃pre,(∃k,k<=l.length/\pre=jcm l k)/\Jx pre W')):=by
 have hlen:=hT.len
 obtain⟨f,hf⟩:∃x,l[0]? =some x:=⟨_,List.getElem?_eq_getElem (by omega)⟩
 have cs0:∀(wr:World),wr.heap[Bs]? =some (.cells #[.slice (some ⟨b,o,none⟩) l.length cap] 214 (0,0))->wr.cell? ⟨Bs,0,none⟩=some (.slice (some ⟨b,o,none⟩) l.length cap):=fun wr h=>by simp[World.cell?,h]
 have hcells:∀(wr:World),Below n₀ W wr->∀(k:Nat) (x:TurnD),l[k]? =some x->wr.cell? ⟨b,o+k*4,none⟩=some (.int .i64 x.at_)/\wr.cell? ⟨b,o+k*4+1,none⟩=some (.int .i64 x.offset)/\wr.cell? ⟨b,o+k*4+2,none⟩=some (.int .i64 x.save)/\wr.cell? ⟨b,o+k*4+3,none⟩=some (.string x.abbr):=fun wr hB k x hx=>by
  obtain⟨b',o',he,hc⟩:=hA.at (i:=k) (r:=x.cs) (by rw[List.getElem?_map,hx];rfl)
  injection he with he
  injection he with u1 u2
  subst u1 u2
  exact⟨(hB.cell (p:=⟨b,_,none⟩) hb).trans (hc 0 _ rfl),(hB.cell (p:=⟨b,_,none⟩) hb).trans (hc 1 _ rfl),(hB.cell (p:=⟨b,_,none⟩) hb).trans (hc 2 _ rfl),(hB.cell (p:=⟨b,_,none⟩) hb).trans (hc 3 _ rfl)⟩
 have hf1:W.cell? ⟨b,o+1,none⟩=some (.int .i64 f.offset):=by simpa using (hcells W (Below.refl _ _) 0 f hf).2.1
 have cB:=cs0 W hBs
 refine callsIn_of_wp Tryz.func258 rfl h ?_ hro
 simp only[Tryz.ntmps258,List.size_toArray,List.length_cons,List.length_nil,Nat.reduceAdd,Nat.reduceSub,Array.replicate_succ,Array.replicate_zero,List.push_toArray,List.append_toArray,List.nil_append,List.cons_append]
 gi_wp2
 clear hf1 cB
 gi_loopw [3,15] (fun s3 s15 wr=>∃k:Nat,k<=l.length/\s15=.int .i64 k/\s3=.int .i64 (l[k-1]?.getD js2).offset/\J (jcm l k) wr/\Below n₀ W wr/\wr.heap[Bs]? =some (.cells #[.slice (some ⟨b,o,none⟩) l.length cap] 214 (0,0)))
  (fun _ s15 _=>l.length-(intOf s15).toNat)
 case atStart=>exact⟨0,Nat.zero_le _,rfl,by rw[hf];rfl,h0,Below.refl _ _,hBs⟩
 case round=>
  obtain⟨k,hk,rfl,rfl,hJs,hB,hBr⟩:=hrel
  have cB:=cs0 wr hBr
  by_cases hlt:k<l.length
  ·obtain⟨x,hx⟩:=qgg hlt
   obtain⟨c0,c1,c2,c3⟩:=hcells wr hB k x hx
   have hnw:=hB.size
   have hsz:n₀<=wr.heap.size:=by omega
   have hsv:=jlu hT hlt
   have hbk:=uptoS_succ l k
   have hJ':=jhj hJa hJs (.cells #[.int .i64 x.at_,.int .i64 x.offset,.int .i64 x.save,.string x.abbr] 304)
   have hyy:=hY _ (strK l k) _ hJ' (by rw[jg5];exact hlt)
   rw[hsv]at hyy
   unfold jpl StrD.v at hyy
   simp only[hx,Option.getD_some]at hyy
   have hH:(wr.alloc (.cells #[.int .i64 x.at_,.int .i64 x.offset,.int .i64 x.save,.string x.abbr] 304)).heap[wr.heap.size]? =some (.cells #[.int .i64 x.at_,.int .i64 x.offset,.int .i64 x.save,.string x.abbr] 304 (0,0)):=World.alloc_heap_new wr _
   have hBa:Below n₀ W (wr.alloc (.cells #[.int .i64 x.at_,.int .i64 x.offset,.int .i64 x.save,.string x.abbr] 304)):=hB.alloc hsz _
   have hBra:=Zu.alloc wr (.cells #[.int .i64 x.at_,.int .i64 x.offset,.int .i64 x.save,.string x.abbr] 304) Bs 214 _ (.inl rfl) hBr
   have cBa:=cs0 _ hBra
   generalize hA0:(l[k-1]?.getD js2).offset=ah at *
   have HX:Hid ((l[k+1-1]?.getD js2).offset=x.offset):=by simp only[Hid];rw[Nat.add_sub_cancel,hx];rfl
   by_cases hlt2:k+1<l.length
   ·obtain⟨y,hy⟩:∃y,l[k+1]? =some y:=⟨_,List.getElem?_eq_getElem hlt2⟩
    have d0:=(hcells _ hBa (k+1) y hy).1
    have y1:=hT.top _ y hy
    have y2:=jzj hT hy
    simp only[hy]at hyy
    obtain⟨fn,tmps,assign,body,hy1,hR⟩:=hyy
    clear hA0 hx hy hf hcells hY hsv
    gi_wp2
    refine hR.mono ?_
    rintro e W3 (⟨rfl,hJ3,hk3⟩|⟨rfl,hJx3⟩)
    ·have hH3:=hk3.2 _ _ _ (.inr rfl) hH
     have g1:W3.cell? ⟨wr.heap.size,1,none⟩=some (.int .i64 x.offset):=by simp[World.cell?,hH3]
     have hB3:=hBa.trans hk3.1
     have hBr3:=hk3.2 _ _ _ (.inl rfl) hBra
     gi_wp2
     go_roundw
     case rel=>exact⟨k+1,by omega,by go_num,by rw[HX.out],by rw[hbk];exact hJ3,hB3,hBr3⟩
     case measure=>simp[intOf];omega
    ·gi_wp2
     refine bodyPost_ret (results_none rfl _ _ _) rfl ?_
     exact⟨⟨_,rfl⟩,.inr ⟨_,⟨k+1,by omega,hbk.symm⟩,hJx3⟩⟩
   ·have hy:l[k+1]? =none:=List.getElem?_eq_none (by omega)
    simp only[hy]at hyy
    obtain⟨fn,tmps,assign,body,hy1,hR⟩:=hyy
    clear hA0 hx hy hf hcells hY hsv
    gi_wp2
    refine hR.mono ?_
    rintro e W3 (⟨rfl,hJ3,hk3⟩|⟨rfl,hJx3⟩)
    ·have hH3:=hk3.2 _ _ _ (.inr rfl) hH
     have g1:W3.cell? ⟨wr.heap.size,1,none⟩=some (.int .i64 x.offset):=by simp[World.cell?,hH3]
     have hB3:=hBa.trans hk3.1
     have hBr3:=hk3.2 _ _ _ (.inl rfl) hBra
     gi_wp2
     go_roundw
     case rel=>exact⟨k+1,by omega,by go_num,by rw[HX.out],by rw[hbk];exact hJ3,hB3,hBr3⟩
     case measure=>simp[intOf];omega
    ·gi_wp2
     refine bodyPost_ret (results_none rfl _ _ _) rfl ?_
     exact⟨⟨_,rfl⟩,.inr ⟨_,⟨k+1,by omega,hbk.symm⟩,hJx3⟩⟩
  ·obtain rfl:k=l.length:=by omega
   gi_wp2
   go_end0
   exact⟨⟨_,rfl⟩,.inl ⟨_,rfl,hJs⟩⟩
theorem jm6 (F:Fence) (n:Nat) (h:F.fn 258) (hro:F.round=none) (hn:1<=n) (Bs n₀ b o cap:Nat) (l:List TurnD) (hT:TabR l) (hb:b<n₀) (w:World) (hn₀:n₀<=w.heap.size)
  (hc:w.heap[Bs]? =some (.cells #[.slice (some ⟨b,o,none⟩) l.length cap] 214 (0,0))) (hA:Zd w (some ⟨b,o,none⟩) 4 (l.map TurnD.cs)):
  SeqStopsK F n Tryz.prog 258 #[.pointer (some ⟨Bs,0,none⟩)] (fun x:StrK=>#[x.1.v]) (KpS n₀) (fun ys=>ys=jcm l l.length) (fun pre=>∃k,k<=l.length/\pre=jcm l k) l.length w:=fun q J Jx W hW hJa _ hY h0=>
 j46 F n h hro hn q Bs n₀ b o cap l hT hb J Jx W hJa (Nat.le_trans hn₀ hW.size) hY ((hW.block Bs (Array.getElem?_eq_some_iff.1 hc).1).trans hc) (hA.below hW) h0
end
section
open Go.RowKit Go.Shelf
attribute [local go_sem] Oper.semAt_some
def shownB(n:Int)(s:StrK):Bool:=decide (s.1.first<=n-s.1.own)&&decide (n-s.1.own<=s.1.last)
def jcn(n:Int)(l:List StrK):List Int:=(l.filter (shownB n)).map fun s=>n-s.1.own
theorem shownL_hit{n:Int}{l:List StrK}{s:StrK}(h1:s.1.first<=n-s.1.own)(h2:n-s.1.own<=s.1.last):jcn n (l++[s])=jcn n l++[n-s.1.own]:=by simp[jcn,shownB,h1,h2]
theorem shownL_miss1{n:Int}{l:List StrK}{s:StrK}(h1:¬s.1.first<=n-s.1.own):jcn n (l++[s])=jcn n l:=by
 unfold jcn
 rw[List.filter_append,show [s].filter (shownB n)=[] by simp[shownB,h1],List.append_nil]
theorem shownL_miss2{n:Int}{l:List StrK}{s:StrK}(h2:¬n-s.1.own<=s.1.last):jcn n (l++[s])=jcn n l:=by
 unfold jcn
 rw[List.filter_append,show [s].filter (shownB n)=[] by simp[shownB,h2],List.append_nil]
theorem jm9(n:Int)(l:List StrK):(jcn n l).length<=l.length:=by unfold jcn;rw[List.length_map];exact List.length_filter_le _ _
def jhm(l:List TurnD)(n:Int):List Int:=jcn n (jcm l l.length)
theorem j8w:(Tryz.prog.info? 2).map (fun i=>(i.zero,i.size,i.bytes))=some (some (.int .i64 0),1,8):=by kernel_rfl
theorem Zu.appended{W w1:World}{n₀ B:Nat}{v v':Value}{k:Nat}{xs:List Value}{tmp:Obj}(hrow:W.ownsRow n₀ 2 1 v k xs)(hv1:Boxed w1 B 260 v)(hgrow:(W.alloc tmp).grownBy w1 v.ownBlock):Zu W (w1.setCell ⟨B,0,none⟩ v'):=by
 refine Zu.trans ?_ (Zu.set hv1 (by decide) (by decide) 0 v')
 intro i t cs ht hi
 have hlt:=(Array.getElem?_eq_some_iff.1 hi).1
 refine(hgrow.block i (by simp;omega) ?_).trans ((Below.heap_alloc W tmp i hlt).trans hi)
 rcases hrow.2 with⟨rfl,_⟩|⟨g,cap,cur,rfl,_,hgb,_⟩
 ·simp[Value.ownBlock]
 ·intro e
  have e:i=g:=by simpa [Value.ownBlock]using e
  subst e
  rw[hgb]at hi
  cases hi
  rcases ht with h|h<;>exact absurd h (by decide)
theorem jtf(F:Fence)(n:Nat)(h45:F.fn 173)(h67:F.fn 219)(h79:F.fn 258)(hro:F.round=none)(hn:3<=n)(l:List TurnD)(v:Value)(m:Int)(hT:TabR l)(m1: -62135596800<=m)(m2:m<=253402300799)(w:World)(hv:Je w v l):
  CallsIn F n Tryz.prog 173 #[v,.int .i64 m] w fun e W'=>∃v',e=.returned v'/\W'.ownsRow w.heap.size 2 1 v' (jhm l m).length ((jhm l m).map (Value.int .i64))/\Below w.heap.size w W':=by
 have h1:1<=n:=by omega
 have hlen:=hT.len
 obtain⟨i0,hi,hz0,hz1,hz2⟩:=info_parts j8w
 obtain⟨a,cap,rfl,hA⟩:=hv
 obtain⟨f,hf⟩:∃x,l[0]? =some x:=⟨_,List.getElem?_eq_getElem (by omega)⟩
 obtain⟨b,o,rfl,hd⟩:=hA.at (i:=0) (r:=f.cs) (by rw[List.getElem?_map,hf];rfl)
 have hbl:b<w.heap.size:=qbl (hd 0 _ rfl)
 clear hd hf
 refine callsIn_of_wp_marks Tryz.func173 rfl h45 ?_ hro
 simp only[Tryz.ntmps173,List.size_toArray,List.length_cons,List.length_nil,Nat.reduceAdd,Nat.reduceSub,Array.replicate_succ,Array.replicate_zero,List.push_toArray,List.append_toArray,List.nil_append,List.cons_append]
 gi_wp2_with (gi_at_call 219;refine(jg6 F (n-1) h67 hro _ _ _ _).mono ?_;rintro e w' ⟨rfl,rfl⟩)
 obtain⟨wA,hwA⟩:∃wA,((w.alloc (.cells #[.slice (some ⟨b,o,none⟩) l.length cap] 214)).alloc (.cells #[.int .i64 m] 2))=wA:=⟨_,rfl⟩
 have hsA:wA.heap.size=w.heap.size+1+1:=by rw[<- hwA];simp
 have hBA:Below w.heap.size w wA:=by rw[<- hwA];exact(qal w _).alloc (by simp) _
 have cM:wA.cell? ⟨w.heap.size+1,0,none⟩=some (.int .i64 m):=by rw[<- hwA];simp[go_sem]
 have bO:=Boxed.new wA 260 (.slice none 0 0)
 have bN:=Boxed.new (wA.alloc (.cells #[.slice none 0 0] 260)) 214 (.slice (some ⟨b,o,none⟩) l.length cap)
 rw[World.size_alloc,hsA]at bN
 rw[hsA]at bO
 have hB0:Below (w.heap.size+1+1) wA ((wA.alloc (.cells #[.slice none 0 0] 260)).alloc (.cells #[.slice (some ⟨b,o,none⟩) l.length cap] 214)):=((Below.refl _ wA).alloc (by omega) _).alloc (by simp;omega) _
 have hA0:=hA.below (hBA.trans (hB0.mono (by omega)))
 rw[hwA]
 refine wpIn_rangeFunc_ownH hro h1 (gf:=258) (lb:=#[.pointer (some ⟨w.heap.size+1+1+1,0,none⟩)]) rfl h79 (enters_of Tryz.func258 (by kernel_rfl) rfl)
  (jm6 F (n-1) h79 hro (by omega) (w.heap.size+1+1+1) (w.heap.size+1+1) b o cap l hT (by omega) _ (by simp;omega) bN hA0) j9k (j9l (by simp;omega)) (Below.refl _ _) (fun _=>rfl)
  (fun pre W=>(∃v,Boxed W (w.heap.size+1+1) 260 v/\W.ownsRow (w.heap.size+1+1) 2 1 v (jcn m pre).length ((jcn m pre).map (Value.int .i64))/\True)/\Below (w.heap.size+1+1) wA W)
  (fun _ _ _=>False)
  (OwnFrom.and (Own.from (holdsRow_own (w.heap.size+1+1) (w.heap.size+1+1) 260 2 1 (fun pre=>(jcn m pre).length) (fun pre=>(jcn m pre).map (Value.int .i64)) (fun _ _=>True)) _) (ownFrom_below (by omega) (by simp;omega)))
  (fun _ _ _ _ _ hs _ _=>hs)
  ⟨⟨_,bO.alloc _,World.ownsRow_nil _ _ _ _,trivial⟩,hB0⟩
  (fun x a' W=>∃Bx,W.heap[Bx]? =some (.cells #[.int .i64 x.1.first,.int .i64 x.1.last,.int .i64 x.1.ahead,.int .i64 x.1.own] 310 (0,0))/\a'={ tmps:=#[.agg #[.slice (some ⟨b,o,none⟩) l.length cap],.int .i64 m,.pointer (some ⟨w.heap.size,0,none⟩),.pointer (some ⟨w.heap.size+1,0,none⟩),.slice none 0 0,.pointer (some ⟨w.heap.size+1+1,0,none⟩),.pointer (some ⟨Bx,0,none⟩),undef,.agg #[.slice (some ⟨b,o,none⟩) l.length cap],.func (.func 258) #[] #[.pointer (some ⟨w.heap.size+1+1+1,0,none⟩)],x.1.v,undef,undef,undef,undef,undef,undef,undef,undef,undef,undef,undef,undef,undef,undef,undef,undef,undef,undef,undef],defers:=[] })
  (fun x a' _ X Y row hs hg hr=>by
   obtain⟨Bx,k1,k2⟩:=hs
   refine⟨Bx,(hg.block Bx (Array.getElem?_eq_some_iff.1 k1).1 (fun e=>?_)).trans k1,k2⟩
   obtain⟨_,oo,ho,hc⟩:=hr Bx e.symm
   rw[k1]at ho
   cases ho
   cases hc)
  ?assign ?body ?done ?stop
 case assign=>
  rintro q pre ⟨⟨x0,x1,x2,x3⟩,hx⟩ W K ⟨⟨v,hv,hrow,_⟩,hB⟩ hK
  simp only[StrD.v]at *
  gi_wp2
  exact hK _ _ ((KeepsOthers.alloc _ _).from _) ⟨(Below.refl _ W).alloc (by have:=hB.size;omega) _,Zu.alloc _ _⟩ ⟨⟨v,hv.alloc _,hrow.alloc _,trivial⟩,hB.alloc (by have:=hB.size;omega) _⟩ ⟨W.heap.size,World.alloc_heap_new W _,rfl⟩
 case body=>
  rintro q pre ⟨⟨x0,x1,x2,x3⟩,hx⟩ a' W hq ⟨r,hr⟩ ⟨⟨v,hv,hrow,_⟩,hB⟩ ⟨Bx,hBx,rfl⟩ hlt
  have hit:=@shownL_hit m pre ⟨⟨x0,x1,x2,x3⟩,hx⟩
  have ms1:=@shownL_miss1 m pre ⟨⟨x0,x1,x2,x3⟩,hx⟩
  have ms2:=@shownL_miss2 m pre ⟨⟨x0,x1,x2,x3⟩,hx⟩
  have hsl:=jm9 m pre
  have hc:=hv.cell
  have hsW:=hB.size
  have cM1:W.cell? ⟨w.heap.size+1,0,none⟩=some (.int .i64 m):=(hB.cell (p:=⟨w.heap.size+1,0,none⟩) (show w.heap.size+1<w.heap.size+1+1 by omega)).trans cM
  have e0:W.cell? ⟨Bx,0,none⟩=some (.int .i64 x0):=by simp[World.cell?,hBx]
  have e1:W.cell? ⟨Bx,1,none⟩=some (.int .i64 x1):=by simp[World.cell?,hBx]
  have e3:W.cell? ⟨Bx,3,none⟩=some (.int .i64 x3):=by simp[World.cell?,hBx]
  obtain⟨j1,j2⟩: -100000<=x3/\x3<=100000:=by
   have hx':=hx
   unfold StrD.ok at hx'
   simp only[Bool.and_eq_true]at hx'
   exact jbw hx'.2.2.2
  simp only[StrD.v]at *
  clear hBx hq hr
  by_cases g1:x0<=m-x3
  ·by_cases g2:m-x3<=x1
   ·have ht:=hit g1 g2
    clear hit ms1 ms2
    gi_wp2_with (gi_at_builtin;refine wpListIn_append_own _ rfl _ _ 260 rfl (w.heap.size+1+1) 2 i0 (.int .i64 0) 1 8 Tryz.underlying260 hi hz0 hz1 hz2 rfl (by decide) _ _ _ rfl (hrow.alloc _) ⟨W.heap.size,0,none⟩ 1 1 [.int .i64 (m-x3)] rfl rfl (cell_one_new _ _ _) (by simp[Value.oneCell']) (by unfold maxLen;omega) (by omega) (by simp;omega) ?_;intro v' w1 hown' hgrow _;obtain⟨g',cap',rfl⟩:=ownsRow_succ hown';obtain⟨hv1,hv2,hr2,hk2,hb2⟩:=hv.appended (by decide) hrow (by omega) (Nat.le_refl _) hown' hgrow;have htk:=Zu.appended (v':=.slice (some ⟨g',0,none⟩) ((jcn m pre).length+1) cap') hrow hv1 hgrow;have hc1:=hv1.cell;have hf1:=hv1.frozen)
    exact⟨hk2.from _,⟨hb2,htk⟩,⟨_,hv2,by rw[ht];simpa using hr2,trivial⟩,hB.trans hb2⟩
   ·have ht:=ms2 g2
    clear hit ms1 ms2
    gi_wp2
    exact⟨KeepsFrom.refl _ _,⟨Below.refl _ _,Zu.refl _⟩,⟨v,hv,by rw[ht];exact hrow⟩,hB⟩
  ·have ht:=ms1 g1
   clear hit ms1 ms2
   gi_wp2
   exact⟨KeepsFrom.refl _ _,⟨Below.refl _ _,Zu.refl _⟩,⟨v,hv,by rw[ht];exact hrow⟩,hB⟩
 case done=>
  rintro D ys W hD rfl ⟨⟨v,hv,hrow,_⟩,hB⟩ hK
  have hc:=hv.cell
  gi_wp2
  refine⟨by simp,.inl ⟨_,_,rfl,run_takeDeferred hK,?_⟩⟩
  refine⟨_,results_tmp rfl _ _ _,v,rfl,?_,(hBA.trans (hB.mono (by omega))).trans (belowK_b (w:=w) (Nat.le_refl _) W D _ _ (by simp at hD;omega) hK rfl rfl)⟩
  have hr:=ownsRow_putObj hrow (.deferred none) hK rfl
  refine⟨hr.1,?_⟩
  rcases hr.2 with h|⟨g,cap,cur,e1,e2,e3⟩
  ·exact .inl h
  ·exact .inr ⟨g,cap,cur,e1,by omega,e3⟩
 case stop=>
  rintro D c pre W _ _ h _
  exact h.elim
theorem jn7(l:List TurnD)(v:Value)(m:Int)(hT:TabR l)(m1: -62135596800<=m)(m2:m<=253402300799)(w:World)(hv:Je w v l):
  Calls Tryz.prog 173 #[v,.int .i64 m] w fun e W'=>∃v',e=.returned v'/\W'.ownsRow w.heap.size 2 1 v' (jhm l m).length ((jhm l m).map (Value.int .i64))/\Below w.heap.size w W':=
 (callsIn_wide (n:=3)).1 (jtf Fence.wide 3 trivial trivial trivial rfl (by omega) l v m hT m1 m2 w hv)
end
end Go.Proofs.YtofdpfpdocpbpaaGreatDoor
