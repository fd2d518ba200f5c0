import Derived.Test.YtbbgeelamjmgaaaGreatDoorTabPd
import Derived.RangeFuncNested
import Derived.RangeFuncBound
import Derived.Shelf.RegionOpen
import Derived.OwnWalkIn
import Derived.LoopNIn
import Derived.LoopIn
set_option maxRecDepth 100000
set_option maxHeartbeats 0
set_option linter.unusedSimpArgs false
namespace Go.Proofs.YtbbgeelamjmgaaaGreatDoor
variable{l:List ZK}{n₀:Nat}{A B vCC W:World}
section
open Go.RowKit Go.Shelf
attribute [local go_sem] Oper.semAt_some
structure vam where
 first:Int
 last:Int
 ahead:Int
 own:Int
def vam.v(s:vam):Value:=.agg #[J s.first,J s.last,J s.ahead,J s.own]
def vam.ok(s:vam):Bool:=ZX s.first (-62135596800) 253402300799&&(ZX s.last (-62135596801) 253402300799&&(ZX s.ahead (-100000) 100000&&ZX s.own (-100000) 100000))
abbrev QQ:={ s:vam // s.ok=true }
def jh3(l:List ZK)(k:Nat):vam:=⟨(l[k]?.getD jmw).at_,(match l[k+1]? with|some t=>t.at_-1|none=>253402300799),(l[k-1]?.getD jmw).Zq,(l[k]?.getD jmw).Zq⟩
def Re(l:List ZK)(k:Nat):QQ:=if h:(jh3 l k).ok=true then⟨jh3 l k,h⟩else⟨⟨0,0,0,0⟩,RN⟩
theorem jnl(hT:Js l){x:ZK}(hx:x∈l):ZX x.Zq (-100000) 100000=true:=by
 have:=hT.one x hx;unfold jb8 at this;rw[vB]at this;exact this.1
theorem jpe(hT:Js l){k:Nat}{x:ZK}(hx:l[k]? =some x): -62135596800<=x.at_:=by
 have hl:=hT.len;obtain⟨f,hf⟩:∃r,l[0]? =some r:=⟨_,ZV Q⟩;have:=jpk hT.up (Nat.zero_le k) hf hx;rw[hT.first f hf]at this;exact this
theorem jym(hT:Js l){k:Nat}(hk:k<l.length):(jh3 l k).ok=true:=by
 have⟨x,hx⟩:=DV hk;obtain⟨p,hp⟩:∃x,l[k-1]? =some x:=⟨_,ZV Q⟩;have h1:=jnl hT (ui hx);have h2:=jnl hT (ui hp);have h3:=hT.top k x hx;have h4:=jpe hT hx;unfold vam.ok jh3;rw[hx,hp];simp only[Option.getD_some,h1,h2,Bool.and_true];rw[jma h4 h3,Bool.true_and];cases hy:l[k+1]? with
 |none=>exact jma (by show(-62135596801:Int)<=253402300799;omega) (by show(253402300799:Int)<=253402300799;omega)
 |some y=>exact jma (by have:=jpe hT hy;simp only;omega) (by have:=hT.top _ y hy;simp only;omega)
theorem jdg(hT:Js l){k:Nat}(hk:k<l.length):(Re l k).1=jh3 l k:=by
 unfold Re;rw[dif_pos (jym hT hk)]
def AA(l:List ZK)(k:Nat):List QQ:=(List.range k).map (Re l)
theorem vbD(l:List ZK)(k:Nat):AA l (k+1)=AA l k++[Re l k]:=by simp[AA,List.range_succ]
theorem jd0(l:List ZK)(k:Nat):(AA l k).length=k:=by simp[AA]
def Zv(W W':World):Prop:=∀(k:Nat) (t:TypeId) (cs:Array Value),(t=158\/t=195)->W.heap[k]? =some (G cs t (0,0))->W'.heap[k]? =some (G cs t (0,0))
def KpS(n₀:Nat)(W W':World):Prop:=Below n₀ W W'/\Zv W W'
theorem j30(h:KpS n₀ A B)(k:KpS n₀ B vCC):KpS n₀ A vCC:=⟨h.1.trans k.1,λi t cs ht hi=>k.2 i t cs ht (h.2 i t cs ht hi)⟩
theorem j31{w:World}(hn:n₀<=w.heap.size)(W:World)(l:Nat)(o o':Obj)(hl:w.heap.size<=l)(h:W.heap[l]? =some o)(hc:o.isCells=false)(hw:o.isWalk=false):KpS n₀ W (W.putObj l o'):=
 ⟨belowK_b hn W l o o' hl h hc hw,λk t cs _ hk=>by
  refine(World.putObj_heap_other λe=>?_).trans hk;subst e;rw[h]at hk;cases hk
  cases hc⟩
theorem Zv.refl(W:World):Zv W W:=λ_ _ _ _ h=>h
theorem Zv.alloc(W:World)(o:Obj):Zv W (W.alloc o):=λk _ _ _ h=>(Below.heap_alloc W o k (Array.getElem?_eq_some_iff.1 h).1).trans h
theorem Zv.trans(h:Zv A B)(k:Zv B vCC):Zv A vCC:=λi t cs ht hi=>k i t cs ht (h i t cs ht hi)
theorem Zv.set{b:Nat}{tt:Array Value}{t0:TypeId}(hb:W.heap[b]? =some (G tt t0 (0,0)))(h1:t0≠158)(h2:t0≠195)(i:Nat)(v:Value):Zv W (W.setCell (O b i) v):=λk t cs ht hk=>by
 refine(Below.heap_setCell W (O b i) v k λe=>?_).trans hk;have e:k=b:=by first|exact e|exact e.symm
 subst e;rw[hb]at hk;cases hk
 rcases ht with h|h
 .exact h1 h
 .exact h2 h
theorem jgm(F:Fence)(n:Nat)(h:F.fn 242)(lI:F.round=none)(a:Option Addr)(len cap:Nat)(w:World):
  CallsIn F n Tryz.prog 242 #[.agg #[U a len cap]] w λe w'=>e=V (.func (.func 270) #[] #[.pointer (some (O w.heap.size 0))])/\w'=w.alloc (G #[U a len cap] 158):=by
 refine callsIn_of_wp Tryz.func242 rfl h ?_ lI;simp only[Tryz.ntmps242,List.size_toArray,List.length_cons,List.length_nil,Nat.reduceAdd,Nat.reduceSub,Array.replicate_succ,Array.replicate_zero,List.push_toArray,List.append_toArray,List.nil_append,List.cons_append]
 gi_wp2
 go_ret;exact⟨rfl,rfl⟩
end
section
open Go.RowKit Go.Shelf
attribute [local go_sem] Oper.semAt_some
theorem jph{β:Type}{B:Nat}{vJJ:β->World->Prop}(h:AbidesFrom B vJJ){s:β}{W:World}(hs:vJJ s W)(o:Obj):vJJ s (W.alloc o):=
 h s W _ none hs (World.grownBy_alloc W o none) (λr e=>by cases e)
theorem j1q(F:Fence)(n:Nat)(h:F.fn 270)(lI:F.round=none)(hn:1<=n)(q Bs n₀ b o cap:Nat)(l:List ZK)(hT:Js l)(hb:b<n₀)(vJJ Jx:List QQ->World->Prop)(W:World)(Bn:AbidesFrom W.heap.size vJJ)(Gc:n₀<=W.heap.size)
  (hY:∀bK x W,vJJ bK W->bK.length<l.length->YieldAt F (n-1) Tryz.prog q #[x.1.v] W λe W'=>
   (e=V (.bool true)/\vJJ (bK++[x]) W'/\KpS n₀ W W')\/(e=V (.bool false)/\Jx (bK++[x]) W'))
  (lY:W.heap[Bs]? =some (G #[U (some (O b o)) l.length cap] 158 (0,0))) (hA:Za W (some (O b o)) 4 (l.map ZK.cs)) (h0:vJJ [] W):
  CallsIn F n Tryz.prog 270 #[.func (.yield q) #[] #[],.pointer (some (O Bs 0))] W λe W'=>(∃v,e=V v)/\
   ((∃ys,ys=AA l l.length/\vJJ ys W')\/(∃bK,(∃k,k<=l.length/\bK=AA l k)/\Jx bK W')):=by
 have au:=hT.len;obtain⟨f,hf⟩:∃x,l[0]? =some x:=⟨_,ZV Q⟩;have tt:∀(wr:World),wr.heap[Bs]? =some (G #[U (some (O b o)) l.length cap] 158 (0,0))->wr.cell? (O Bs 0)=some (U (some (O b o)) l.length cap):=λwr h=>by simp[World.cell?,h]
 have aT:∀(wr:World),Below n₀ W wr->∀(k:Nat) (x:ZK),l[k]? =some x->wr.cell? (O b (o+k*4))=some (J x.at_)/\wr.cell? (O b (o+k*4+1))=some (J x.Zq)/\wr.cell? (O b (o+k*4+2))=some (J x.YX)/\wr.cell? (O b (o+k*4+3))=some (I x.uh):=λwr hB k x hx=>by
  have⟨b',o',he,hc⟩:=hA.at (i:=k) (r:=x.cs) (by rw[Z8,hx];rfl);injection he with he
  injection he with u1 u2
  subst u1 u2;exact⟨(hB.cell (p:=(O b _)) hb).trans (hc 0 _ rfl),(hB.cell (p:=(O b _)) hb).trans (hc 1 _ rfl),(hB.cell (p:=(O b _)) hb).trans (hc 2 _ rfl),(hB.cell (p:=(O b _)) hb).trans (hc 3 _ rfl)⟩
 have dg:W.cell? (O b (o+1))=some (J f.Zq):=by simpa using (aT W (ZU _ _) 0 f hf).2.1
 have cB:=tt W lY;refine callsIn_of_wp Tryz.func270 rfl h ?_ lI;simp only[Tryz.ntmps270,List.size_toArray,List.length_cons,List.length_nil,Nat.reduceAdd,Nat.reduceSub,Array.replicate_succ,Array.replicate_zero,List.push_toArray,List.append_toArray,List.nil_append,List.cons_append]
 gi_wp2
 clear dg cB
 gi_loopw [3,15] (λs3 rh wr=>∃k:Nat,k<=l.length/\rh=J k/\s3=J (l[k-1]?.getD jmw).Zq/\vJJ (AA l k) wr/\Below n₀ W wr/\wr.heap[Bs]? =some (G #[U (some (O b o)) l.length cap] 158 (0,0)))
  (λ_ rh _=>l.length-(intOf rh).toNat)
 .exact⟨0,Nat.zero_le _,rfl,by rw[hf];rfl,h0,ZU _ _,lY⟩
 ·
  obtain⟨k,hk,rfl,rfl,Fi,hB,aK⟩:=hrel;have cB:=tt wr aK;by_cases hlt:k<l.length
  .have⟨x,hx⟩:=DV hlt
   have⟨c0,c1,c2,c3⟩:=aT wr hB k x hx;have Pb:=hB.size;have hsz:n₀<=wr.heap.size:=Q;have hsv:=jdg hT hlt;have qt:=vbD l k;have JB:=jph Bn Fi (G #[J x.at_,J x.Zq,J x.YX,I x.uh] 195);have qR:=hY _ (Re l k) _ JB (by rw[jd0];exact hlt);rw[hsv]at qR;unfold jh3 vam.v at qR;simp only[hx,Option.getD_some]at qR;have hH:(wr.alloc (G #[J x.at_,J x.Zq,J x.YX,I x.uh] 195)).heap[wr.heap.size]? =some (G #[J x.at_,J x.Zq,J x.YX,I x.uh] 195 (0,0)):=World.alloc_heap_new wr _;have iy:Below n₀ W (wr.alloc (G #[J x.at_,J x.Zq,J x.YX,I x.uh] 195)):=hB.alloc hsz _;have pr:=Zv.alloc wr (G #[J x.at_,J x.Zq,J x.YX,I x.uh] 195) Bs 158 _ (.inl rfl) aK;have NX:=tt _ pr;generalize eK:(l[k-1]?.getD jmw).Zq=ah at *;have HX:Hid ((l[k+1-1]?.getD jmw).Zq=x.Zq):=by simp only[Hid];rw[Nat.add_sub_cancel,hx];rfl
   by_cases hlt2:k+1<l.length
   .obtain⟨y,hy⟩:∃y,l[k+1]? =some y:=⟨_,ZV hlt2⟩
    have d0:=(aT _ iy (k+1) y hy).1;have y1:=hT.top _ y hy;have y2:=jpe hT hy;simp only[hy]at qR;have⟨fn,tmps,assign,body,KZ,hR⟩:=qR;clear eK hx hy hf aT hY hsv
    gi_wp2
    refine hR.mono ?_;rintro e W3 (⟨rfl,Bm,oC⟩|⟨rfl,pL⟩)
    .have Bi:=oC.2 _ _ _ (.inr rfl) hH
     have g1:W3.cell? (O wr.heap.size 1)=some (J x.Zq):=by simp[World.cell?,Bi]
     have ax:=iy.trans oC.1;have pp:=oC.2 _ _ _ (.inl rfl) pr
     gi_wp2
     go_roundw
     .exact⟨k+1,Q,RP,by rw[HX.out],by rw[qt];exact Bm,ax,pp⟩
     .simp[intOf];omega
    .gi_wp2
     refine ZM (results_none rfl _ _ _) rfl ?_;exact⟨⟨_,rfl⟩,.inr ⟨_,⟨k+1,Q,qt.symm⟩,pL⟩⟩
   .have hy:l[k+1]? =none:=List.getElem?_eq_none Q
    simp only[hy]at qR;have⟨fn,tmps,assign,body,KZ,hR⟩:=qR;clear eK hx hy hf aT hY hsv
    gi_wp2
    refine hR.mono ?_;rintro e W3 (⟨rfl,Bm,oC⟩|⟨rfl,pL⟩)
    .have Bi:=oC.2 _ _ _ (.inr rfl) hH
     have g1:W3.cell? (O wr.heap.size 1)=some (J x.Zq):=by simp[World.cell?,Bi]
     have ax:=iy.trans oC.1;have pp:=oC.2 _ _ _ (.inl rfl) pr
     gi_wp2
     go_roundw
     .exact⟨k+1,Q,RP,by rw[HX.out],by rw[qt];exact Bm,ax,pp⟩
     .simp[intOf];omega
    .gi_wp2
     refine ZM (results_none rfl _ _ _) rfl ?_;exact⟨⟨_,rfl⟩,.inr ⟨_,⟨k+1,Q,qt.symm⟩,pL⟩⟩
  .obtain rfl:k=l.length:=Q
   gi_wp2
   go_end0;exact⟨⟨_,rfl⟩,.inl ⟨_,rfl,Fi⟩⟩
theorem jm2(F:Fence)(n:Nat)(h:F.fn 270)(lI:F.round=none)(hn:1<=n)(Bs n₀ b o cap:Nat)(l:List ZK)(hT:Js l)(hb:b<n₀)(w:World)(Gc:n₀<=w.heap.size)
  (hc:w.heap[Bs]? =some (G #[U (some (O b o)) l.length cap] 158 (0,0))) (hA:Za w (some (O b o)) 4 (l.map ZK.cs)):
  SeqStopsK F n Tryz.prog 270 #[.pointer (some (O Bs 0))] (λx:QQ=>#[x.1.v]) (KpS n₀) (λys=>ys=AA l l.length) (λbK=>∃k,k<=l.length/\bK=AA l k) l.length w:=λq vJJ Jx W hW Bn _ hY h0=>
 j1q F n h lI hn q Bs n₀ b o cap l hT hb vJJ Jx W Bn (Nat.le_trans Gc hW.size) hY ((hW.block Bs (Array.getElem?_eq_some_iff.1 hc).1).trans hc) (hA.below hW) h0
end
section
open Go.RowKit Go.Shelf
attribute [local go_sem] Oper.semAt_some
def vcK(n:Int)(s:QQ):Bool:=decide (s.1.first<=n-s.1.own)&&decide (n-s.1.own<=s.1.last)
def Mh(n:Int)(l:List QQ):List Int:=(l.filter (vcK n)).map λs=>n-s.1.own
theorem vet{n:Int}{l:List QQ}{s:QQ}(h1:s.1.first<=n-s.1.own)(h2:n-s.1.own<=s.1.last):Mh n (l++[s])=Mh n l++[n-s.1.own]:=by simp[Mh,vcK,h1,h2]
theorem veu{n:Int}{l:List QQ}{s:QQ}(h1:¬s.1.first<=n-s.1.own):Mh n (l++[s])=Mh n l:=by
 unfold Mh;rw[List.filter_append,show [s].filter (vcK n)=[] by simp[vcK,h1],List.append_nil]
theorem vev{n:Int}{l:List QQ}{s:QQ}(h2:¬n-s.1.own<=s.1.last):Mh n (l++[s])=Mh n l:=by
 unfold Mh;rw[List.filter_append,show [s].filter (vcK n)=[] by simp[vcK,h2],List.append_nil]
theorem jib(n:Int)(l:List QQ):(Mh n l).length<=l.length:=by unfold Mh;rw[BX];exact List.length_filter_le _ _
def jdn(l:List ZK)(n:Int):List Int:=Mh n (AA l l.length)
theorem j09:(Tryz.prog.info? 2).map (λi=>(i.zero,i.size,i.bytes))=some (some (J 0),1,8):=RG
theorem Zv.appended{w1:World}{B:Nat}{v v':Value}{k:Nat}{xs:List Value}{tmp:Obj}(ap:W.ownsRow n₀ 2 1 v k xs)(ej:Boxed w1 B 90 v)(af:(W.alloc tmp).grownBy w1 v.ownBlock):Zv W (w1.setCell (O B 0) v'):=by
 refine Zv.trans ?_ (Zv.set ej RN RN 0 v');intro i t cs ht hi;have hlt:=(Array.getElem?_eq_some_iff.1 hi).1;refine(af.block i RO ?_).trans ((Below.heap_alloc W tmp i hlt).trans hi);rcases ap.2 with⟨rfl,_⟩|⟨g,cap,cur,rfl,_,jG,_⟩
 .simp[Value.ownBlock]
 .intro e
  have e:i=g:=by simpa [Value.ownBlock]using e
  subst e;rw[jG]at hi;cases hi
  rcases ht with h|h<;>exact absurd h RN
theorem jsz(F:Fence)(n:Nat)(J5:F.fn 204)(tQ:F.fn 242)(EV:F.fn 270)(lI:F.round=none)(hn:3<=n)(l:List ZK)(v:Value)(m:Int)(hT:Js l)(m1: -62135596800<=m)(m2:m<=253402300799)(w:World)(hv:Zy w v l):
  CallsIn F n Tryz.prog 204 #[v,J m] w λe W'=>∃v',e=V v'/\W'.ownsRow w.heap.size 2 1 v' (jdn l m).length ((jdn l m).map (Value.int .i64))/\Bw w W':=by
 have h1:1<=n:=Q;have au:=hT.len;have⟨i0,hi,aG,aH,aF⟩:=info_parts j09;obtain⟨a,cap,rfl,hA⟩:=hv;obtain⟨f,hf⟩:∃x,l[0]? =some x:=⟨_,ZV Q⟩;obtain⟨b,o,rfl,hd⟩:=hA.at (i:=0) (r:=f.cs) (by rw[Z8,hf];rfl);have mt:b<w.heap.size:=ZI (hd 0 _ rfl);clear hd hf;refine callsIn_of_wp_marks Tryz.func204 rfl J5 ?_ lI;simp only[Tryz.ntmps204,List.size_toArray,List.length_cons,List.length_nil,Nat.reduceAdd,Nat.reduceSub,Array.replicate_succ,Array.replicate_zero,List.push_toArray,List.append_toArray,List.nil_append,List.cons_append]
 gi_wp2_with (gi_at_call 242;refine(jgm F (n-1) tQ lI _ _ _ _).mono ?_;rintro e w' ⟨rfl,rfl⟩)
 have⟨wA,cK⟩:=ZL (((w.alloc (G #[U (some (O b o)) l.length cap] 158)).alloc (G #[J m] 2)));have ji:wA.heap.size=w.heap.size+1+1:=by rw[<- cK];simp
 have eX:Bw w wA:=by rw[<- cK];exact(ZA w _).alloc M _
 have cM:wA.cell? (O (w.heap.size+1) 0)=some (J m):=by rw[<- cK];simp[go_sem]
 have bO:=Boxed.new wA 90 nS;have bN:=Boxed.new (wA.alloc (G #[nS] 90)) 158 (U (some (O b o)) l.length cap);rw[World.size_alloc,ji]at bN;rw[ji]at bO;have ag:Below (w.heap.size+1+1) wA ((wA.alloc (G #[nS] 90)).alloc (G #[U (some (O b o)) l.length cap] 158)):=((ZU _ wA).alloc Q _).alloc RO _;have eK:=hA.below (eX.trans (ag.mono Q));rw[cK];refine wpIn_rangeFunc_ownH lI h1 (gf:=270) (lb:=#[.pointer (some (O (w.heap.size+1+1+1) 0))]) rfl EV (enters_of Tryz.func270 RG rfl)
  (jm2 F (n-1) EV lI Q (w.heap.size+1+1+1) (w.heap.size+1+1) b o cap l hT Q _ RO bN eK) j30 (j31 RO) (ZU _ _) (λ_=>rfl)
  (λbK W=>(∃v,Boxed W (w.heap.size+1+1) 90 v/\W.ownsRow (w.heap.size+1+1) 2 1 v (Mh m bK).length ((Mh m bK).map (Value.int .i64))/\True)/\Below (w.heap.size+1+1) wA W)
  (λ_ _ _=>False)
  (OwnFrom.and (Own.from (holdsRow_own (w.heap.size+1+1) (w.heap.size+1+1) 90 2 1 (λbK=>(Mh m bK).length) (λbK=>(Mh m bK).map (Value.int .i64)) (λ_ _=>True)) _) (ownFrom_below Q RO))
  (λ_ _ _ _ _ hs _ _=>hs)
  ⟨⟨_,bO.alloc _,World.ownsRow_nil _ _ _ _,trivial⟩,ag⟩
  (λx a' W=>∃Bx,W.heap[Bx]? =some (G #[J x.1.first,J x.1.last,J x.1.ahead,J x.1.own] 282 (0,0))/\a'={ tmps:=#[.agg #[U (some (O b o)) l.length cap],J m,.pointer (some (O w.heap.size 0)),.pointer (some (O (w.heap.size+1) 0)),nS,.pointer (some (O (w.heap.size+1+1) 0)),.pointer (some (O Bx 0)),undef,.agg #[U (some (O b o)) l.length cap],.func (.func 270) #[] #[.pointer (some (O (w.heap.size+1+1+1) 0))],x.1.v,undef,undef,undef,undef,undef,undef,undef,undef,undef,undef,undef,undef,undef,undef,undef,undef,undef,undef,undef],defers:=[] })
  (λx a' _ X Y row hs hg hr=>by
   have⟨Bx,k1,k2⟩:=hs;refine⟨Bx,(hg.block Bx (Array.getElem?_eq_some_iff.1 k1).1 (λe=>?_)).trans k1,k2⟩;have⟨_,oo,ho,hc⟩:=hr Bx e.symm;rw[k1]at ho;cases ho
   cases hc)
  ?assign ?body ?done ?stop
 case assign=>
  rintro q bK ⟨⟨x0,x1,x2,x3⟩,hx⟩ W K ⟨⟨v,hv,ap,_⟩,hB⟩ hK;simp only[vam.v]at *
  gi_wp2
  exact hK _ _ ((KeepsOthers.alloc _ _).from _) ⟨(ZU _ W).alloc (by have:=hB.size;omega) _,Zv.alloc _ _⟩ ⟨⟨v,hv.alloc _,ap.alloc _,trivial⟩,hB.alloc (by have:=hB.size;omega) _⟩ ⟨W.heap.size,World.alloc_heap_new W _,rfl⟩
 case body=>
  rintro q bK ⟨⟨x0,x1,x2,x3⟩,hx⟩ a' W hq ⟨r,hr⟩ ⟨⟨v,hv,ap,_⟩,hB⟩ ⟨Bx,cR,rfl⟩ hlt;have sD:=@vet m bK ⟨⟨x0,x1,x2,x3⟩,hx⟩;have ym:=@veu m bK ⟨⟨x0,x1,x2,x3⟩,hx⟩;have yn:=@vev m bK ⟨⟨x0,x1,x2,x3⟩,hx⟩;have iP:=jib m bK;have hc:=hv.cell;have dI:=hB.size;have Is:W.cell? (O (w.heap.size+1) 0)=some (J m):=(hB.cell (p:=(O (w.heap.size+1) 0)) (show w.heap.size+1<w.heap.size+1+1 by omega)).trans cM;have e0:W.cell? (O Bx 0)=some (J x0):=by simp[World.cell?,cR]
  have e1:W.cell? (O Bx 1)=some (J x1):=by simp[World.cell?,cR]
  have e3:W.cell? (O Bx 3)=some (J x3):=by simp[World.cell?,cR]
  obtain⟨j1,j2⟩: -100000<=x3/\x3<=100000:=by
   have fm:=hx;unfold vam.ok at fm;simp only[vB]at fm;exact jax fm.2.2.2
  simp only[vam.v]at *;clear cR hq hr;by_cases g1:x0<=m-x3
  .by_cases g2:m-x3<=x1
   .have ht:=sD g1 g2
    clear sD ym yn
    gi_wp2_with (gi_at_builtin;refine wpListIn_append_own _ rfl _ _ 90 rfl (w.heap.size+1+1) 2 i0 (J 0) 1 8 Tryz.underlying90 hi aG aH aF rfl RN _ _ _ rfl (ap.alloc _) (O W.heap.size 0) 1 1 [J (m-x3)] rfl rfl (cell_one_new _ _ _) (by simp[Value.oneCell']) (by unfold maxLen;omega) Q RO ?_;intro v' w1 ao af _;obtain⟨g',fK,rfl⟩:=ownsRow_succ ao;have⟨ej,eQ,dC,fy,ac⟩:=hv.appended RN ap Q (ZD _) ao af;have sL:=Zv.appended (v':=so g' ((Mh m bK).length+1) fK) ap ej af;have aX:=ej.cell;have dg:=ej.frozen)
    exact⟨fy.from _,⟨ac,sL⟩,⟨_,eQ,by rw[ht];simpa using dC,trivial⟩,hB.trans ac⟩
   .have ht:=yn g2
    clear sD ym yn
    gi_wp2
    exact⟨KeepsFrom.refl _ _,⟨ZU _ _,Zv.refl _⟩,⟨v,hv,by rw[ht];exact ap⟩,hB⟩
  .have ht:=ym g1
   clear sD ym yn
   gi_wp2
   exact⟨KeepsFrom.refl _ _,⟨ZU _ _,Zv.refl _⟩,⟨v,hv,by rw[ht];exact ap⟩,hB⟩
 case done=>
  rintro D ys W hD rfl ⟨⟨v,hv,ap,_⟩,hB⟩ hK;have hc:=hv.cell
  gi_wp2
  refine⟨M,.inl ⟨_,_,rfl,run_takeDeferred hK,?_⟩⟩;refine⟨_,results_tmp rfl _ _ _,v,rfl,?_,(eX.trans (hB.mono Q)).trans (belowK_b (w:=w) (ZD _) W D _ _ (by simp at hD;omega) hK rfl rfl)⟩;have hr:=ownsRow_putObj ap (.deferred none) hK rfl;refine⟨hr.1,?_⟩;rcases hr.2 with h|⟨g,cap,cur,e1,e2,e3⟩
  .exact .inl h
  .exact .inr ⟨g,cap,cur,e1,Q,e3⟩
 case stop=>
  rintro D c bK W _ _ h _;exact h.elim
theorem joj(l:List ZK)(v:Value)(m:Int)(hT:Js l)(m1: -62135596800<=m)(m2:m<=253402300799)(w:World)(hv:Zy w v l):
  C 204 #[v,J m] w λe W'=>∃v',e=V v'/\W'.ownsRow w.heap.size 2 1 v' (jdn l m).length ((jdn l m).map (Value.int .i64))/\Bw w W':=
 (callsIn_wide (n:=3)).1 (jsz Fence.wide 3 trivial trivial trivial rfl Q l v m hT m1 m2 w hv)
