import Derived.Test.YtbbgeelamjmgaaaGreatDoorStrPd
set_option maxRecDepth 100000
set_option maxHeartbeats 0
set_option linter.unusedSimpArgs false
open Go.RowKit
namespace Go.Proofs.YtbbgeelamjmgaaaGreatDoor
variable{l:List ZK}{B base k size:Nat}{f g m n:Int}{W W' w wA:World}{row:Option Nat}{bK:List QQ}{e:TypeId}{v:Value}{xs:List Value}
section
open Go.RowKit Go.Shelf
attribute [local go_sem] Oper.semAt_some
def vau(n:Int)(s:QQ):Bool:=decide (s.1.first+s.1.ahead<=n)&&decide (n<s.1.first+s.1.own)
theorem vfb{n:Int}{s:QQ}(h1:s.1.first+s.1.ahead<=n)(h2:n<s.1.first+s.1.own):vau n s=true:=by simp[vau,h1,h2]
theorem vd6{n:Int}{s:QQ}(h1:¬s.1.first+s.1.ahead<=n):vau n s=false:=by simp[vau,h1]
theorem vfa{n:Int}{s:QQ}(h2:¬n<s.1.first+s.1.own):vau n s=false:=by simp[vau,h2]
def vbq(l:List ZK)(n:Int):Option QQ:=(AA l l.length).find? (vau n)
def vd7:Option QQ->vam
 |some s=>s.1
 |none=>⟨0,0,0,0⟩
theorem jso(l:List ZK)(k:Nat):∀d,∃bs,AA l (k+d)=AA l k++bs:=by
 intro d
 induction d with
 |zero=>exact⟨[],M⟩
 |succ d ih=>
  have⟨bs,h⟩:=ih;exact⟨bs++[Re l (k+d)],by rw[<- Nat.add_assoc,vbD,h,List.append_assoc]⟩
theorem jnp{s:QQ}(h:s∈AA l k):∃j,j<k/\s=Re l j:=by
 unfold AA at h;rw[List.mem_map]at h;obtain⟨j,hj,rfl⟩:=h;exact⟨j,List.mem_range.mp hj,rfl⟩
theorem jow(hk:k<l.length)(h0:∀t∈AA l k,vau n t=false)(h1:vau n (Re l k)=true):vbq l n=some (Re l k):=by
 unfold vbq;rw[List.find?_eq_some_iff_append];have⟨bs,hb⟩:=jso l (k+1) (l.length-(k+1));rw[show k+1+(l.length-(k+1))=l.length by omega,vbD,List.append_assoc]at hb;exact⟨h1,AA l k,bs,hb,λa ha=>by rw[h0 a ha];rfl⟩
theorem jjl(h0:∀t∈AA l l.length,vau n t=false):vbq l n=none:=by
 unfold vbq;rw[List.find?_eq_none];intro x hx;rw[h0 x hx];simp
theorem jh2{x:ZK}(h:l[k]? =some x):(jh3 l k).first=x.at_:=by unfold jh3;rw[h];rfl
theorem jz8(hT:Js l){n:Int}{k:Nat}(hk:k<l.length)(h0:∀t∈AA l k,vau n t=false)(h1:n<(Re l k).1.first-100000):vbq l n=none:=by
 refine jjl λt ht=>?_
 obtain⟨j,hj,rfl⟩:=jnp ht;by_cases Cc:j<k
 .exact h0 _ (by unfold AA;rw[List.mem_map];exact⟨j,List.mem_range.mpr Cc,rfl⟩)
 .have ok:=(Re l j).2
  unfold vam.ok at ok;simp only[vB]at ok;have ha:=jax ok.2.2.1;refine vd6 ?_;have⟨x,hx⟩:=DV hk;have⟨y,hy⟩:=DV hj;have hu:=jpk hT.up (show k<=j by omega) hx hy;rw[jdg hT hk,jh2 hx]at h1;rw[jdg hT hj]at ha ⊢;rw[jh2 hy];omega
structure vch(W:World)(B:Nat)(s:vam):Prop where
 c0:W.cell? (O B 0)=some (J s.first)
 c1:W.cell? (O B 1)=some (J s.last)
 c2:W.cell? (O B 2)=some (J s.ahead)
 c3:W.cell? (O B 3)=some (J s.own)
theorem vch.kept{s:vam}(h:vch W B s)(hg:W.grownBy W' row)(hr:∀r,row=some r->∃o:Obj,W.heap[r]? =some o/\o.isCells=false):vch W' B s:=
 ⟨cell_kept h.c0 hg hr,cell_kept h.c1 hg hr,cell_kept h.c2 hg hr,cell_kept h.c3 hg hr⟩
theorem jej{x0 x1 x2 x3:Int}(h:W.heap[B]? =some (G #[J x0,J x1,J x2,J x3] 282 (0,0))):vch W B ⟨x0,x1,x2,x3⟩/\∀i,W.frozen? (O B i)=false:=
 ⟨⟨by simp[World.cell?,h],by simp[World.cell?,h],by simp[World.cell?,h],by simp[World.cell?,h]⟩,λi=>by simp[World.frozen?,h]⟩
theorem jwx{cs:Array Value}{t:TypeId}(h:W.heap[B]? =some (G cs t (0,0)))(hg:W.grownBy W' row)(hr:∀r,row=some r->∃o:Obj,W.heap[r]? =some o/\o.isCells=false):W'.heap[B]? =some (G cs t (0,0)):=by
 refine(hg.block B (Array.getElem?_eq_some_iff.1 h).1 (λe=>?_)).trans h;have⟨o,ho,hc⟩:=hr B e.symm;rw[h]at ho;cases ho
 cases hc
theorem jly{x y:vam}(h:vch W B x):vch ((((W.setCell (O B 0) (J y.first)).setCell (O B 1) (J y.last)).setCell (O B 2) (J y.ahead)).setCell (O B 3) (J y.own)) B y:=by
 have⟨s0,s1,s2,s3⟩:=jyr (v0:=J y.first) (v1:=J y.last) (v2:=J y.ahead) (v3:=J y.own) h.c0 h.c1 h.c2 h.c3;exact⟨s0,s1,s2,s3⟩
theorem jel(W:World)(B:Nat)(v0 v1 v2 v3:Value):KeepsOthers W ((((W.setCell (O B 0) v0).setCell (O B 1) v1).setCell (O B 2) v2).setCell (O B 3) v3):=
 (((KeepsOthers.setCell W _ v0).trans (KeepsOthers.setCell _ _ v1)).trans (KeepsOthers.setCell _ _ v2)).trans (KeepsOthers.setCell _ _ v3)
theorem jeq{n₀:Nat}{A:World}(h:Below n₀ A W)(B:Nat)(hB:n₀<=B)(v0 v1 v2 v3:Value):Below n₀ A ((((W.setCell (O B 0) v0).setCell (O B 1) v1).setCell (O B 2) v2).setCell (O B 3) v3):=
 (((h.setCell (p:=(O B 0)) hB v0).setCell (p:=(O B 1)) hB v1).setCell (p:=(O B 2)) hB v2).setCell (p:=(O B 3)) hB v3
def jjk(w wA:World)(s:vam)(t:Bool)(W:World):Prop:=vch W (w.heap.size+1+1+1) s/\W.cell? (O (w.heap.size+1+1+1+1) 0)=some (.bool t)/\Below (w.heap.size+1+1+1) wA W
theorem jjj(w wA:World)(s:vam)(t:Bool)(hs:wA.heap.size=w.heap.size+1+1+1)(B:Nat)(hB:w.heap.size+1+1+1<=B){β:Type}:OwnFrom B (fun(_:β) W=>jjk w wA s t W):=λx X Y row hx hg hr=>
 ⟨hx.1.kept hg (λr e=>(hr r e).2),cell_kept hx.2.1 hg (λr e=>(hr r e).2),ownFrom_below (β:=β) Q hB x X Y row hx.2.2 hg hr⟩
def jik(m:Int)(bK:List QQ):Prop:=∀t∈bK,vau m t=false
theorem jf7{s:QQ}(h:jik m bK)(hs:vau m s=false):jik m (bK++[s]):=λt ht=>(List.mem_append.1 ht).elim (h t) (λe=>by rw[List.mem_singleton]at e;subst e;exact hs)
def jw5(m:Int)(w wA:World)(bK:List QQ)(W:World):Prop:=∃vQ s,bK=vQ++[s]/\jik m vQ/\((m<s.1.first-100000/\jjk w wA ⟨0,0,0,0⟩ false W)\/(vau m s=true/\jjk w wA s.1 true W))
theorem jz7{s:QQ}(h:jik m bK)(h1:m<s.1.first-100000)(h2:jjk w wA ⟨0,0,0,0⟩ false W):jw5 m w wA (bK++[s]) W:=⟨bK,s,rfl,h,.inl ⟨h1,h2⟩⟩
theorem jz6{s:QQ}(h:jik m bK)(h1:vau m s=true)(h2:jjk w wA s.1 true W):jw5 m w wA (bK++[s]) W:=⟨bK,s,rfl,h,.inr ⟨h1,h2⟩⟩
theorem jtt(l:List ZK)(v:Value)(m:Int)(hT:Js l)(m1: -62135596800<=m)(m2:m<=253402300799)(w:World)(hv:Zy w v l):
  C 243 #[v,J m] w λe W'=>e=V (.tuple #[(vd7 (vbq l m)).v,.bool (vbq l m).isSome])/\Bw w W':=by
 refine(callsIn_wide (n:=3)).1 ?_;have h1:1<=3:=Q;have au:=hT.len;obtain⟨a,cap,rfl,hA⟩:=hv;obtain⟨f,hf⟩:∃x,l[0]? =some x:=⟨_,ZV Q⟩;obtain⟨b,o,rfl,hd⟩:=hA.at (i:=0) (r:=f.cs) (by rw[Z8,hf];rfl);have mt:b<w.heap.size:=ZI (hd 0 _ rfl);clear hd hf;have HS:=λk (hk:k<l.length) (h0:∀t∈AA l k,vau m t=false) (h1:vau m (Re l k)=true)=>jow hk h0 h1
 have HN:=fun(h0:∀t∈AA l l.length,vau m t=false)=>jjl h0
 have HC:=λk (hk:k<l.length) (h0:∀t∈AA l k,vau m t=false) (h1:m<(Re l k).1.first-100000)=>jz8 hT hk h0 h1
 generalize vbq l m=vGG at *;refine callsIn_of_wp_marks Tryz.func243 rfl trivial ?_ rfl;simp only[Tryz.ntmps243,List.size_toArray,List.length_cons,List.length_nil,Nat.reduceAdd,Nat.reduceSub,Array.replicate_succ,Array.replicate_zero,List.push_toArray,List.append_toArray,List.nil_append,List.cons_append]
 gi_wp2
 refine wpIn_wide.2 (wp_scope_straight ((wpIn_wide (n:=3)).1 ?_))
 gi_wp2
 apply wpIn_label
 gi_wp2_with (refine⟨trivial,?_⟩;gi_at_call 242;refine(jgm Fence.wide 2 trivial rfl _ _ _ _).mono ?_;rintro e w' ⟨rfl,rfl⟩)
 have⟨wA,cK⟩:=ZL ((((w.alloc (G #[U (some (O b o)) l.length cap] 158)).alloc (G #[J m] 2)).alloc (G #[J 0,J 0,J 0,J 0] 282)));have ji:wA.heap.size=w.heap.size+1+1+1:=by rw[<- cK];simp
 have eX:Bw w wA:=by rw[<- cK];exact((ZA w _).alloc M _).alloc RO _
 have cM:wA.cell? (O (w.heap.size+1) 0)=some (J m):=by rw[<- cK];simp[go_sem]
 have hR:wA.heap[w.heap.size+1+1]? =some (G #[J 0,J 0,J 0,J 0] 282 (0,0)):=by
  rw[<- cK];have:=World.alloc_heap_new ((w.alloc (G #[U (some (O b o)) l.length cap] 158)).alloc (G #[J m] 2)) (G #[J 0,J 0,J 0,J 0] 282);rw[World.size_alloc,World.size_alloc]at this;exact this
 rw[cK];have⟨wF,qP⟩:=ZL (wA.alloc (G #[J 0,J 0,J 0,J 0] 282));have hF:wF.heap[w.heap.size+1+1+1]? =some (G #[J 0,J 0,J 0,J 0] 282 (0,0)):=by
  rw[<- qP];have:=World.alloc_heap_new wA (G #[J 0,J 0,J 0,J 0] 282);rw[ji]at this;exact this
 have Gj:wF.heap.size=w.heap.size+1+1+1+1:=by rw[<- qP];simp;omega
 have J8:Below (w.heap.size+1+1+1) wA wF:=by rw[<- qP];exact(ZU _ wA).alloc Q _
 rw[qP];have bH:=Boxed.new wF 4 (.bool false);have bN:=Boxed.new (wF.alloc (G #[.bool false] 4)) 158 (U (some (O b o)) l.length cap);rw[World.size_alloc,Gj]at bN;rw[Gj]at bH;have ag:Below (w.heap.size+1+1+1) wA ((wF.alloc (G #[.bool false] 4)).alloc (G #[U (some (O b o)) l.length cap] 158)):=(J8.alloc Q _).alloc RO _;have ew:((wF.alloc (G #[.bool false] 4)).alloc (G #[U (some (O b o)) l.length cap] 158)).heap[w.heap.size+1+1+1]? =some (G #[J 0,J 0,J 0,J 0] 282 (0,0)):=
  (Below.heap_alloc _ _ _ RO).trans ((Below.heap_alloc _ _ _ Q).trans hF)
 have eK:=hA.below (eX.trans (ag.mono Q));refine wpIn_rangeFunc_ownH rfl h1 (gf:=270) (lb:=#[.pointer (some (O (w.heap.size+1+1+1+1+1) 0))]) rfl trivial (enters_of Tryz.func270 RG rfl)
  (jm2 Fence.wide 2 trivial rfl Q (w.heap.size+1+1+1+1+1) (w.heap.size+1+1+1) b o cap l hT Q _ RO bN eK) j30 (j31 RO) (ZU _ _) (λ_=>rfl)
  (λbK W=>W.heap[w.heap.size+1+1+1]? =some (G #[J 0,J 0,J 0,J 0] 282 (0,0))/\Boxed W (w.heap.size+1+1+1+1) 4 (.bool false)/\Below (w.heap.size+1+1+1) wA W/\jik m bK)
  (λc bK W=>c=.exit 0/\jw5 m w wA bK W)
  (λs X Y row hs hg hr=>⟨jwx hs.1 hg (λr e=>(hr r e).2),boxed_own _ _ (fun(_:Unit)=>.bool false) () X Y row hs.2.1 hg (λr e=>(hr r e).2),ownFrom_below (β:=Unit) Q RO () X Y row hs.2.2.1 hg hr,hs.2.2.2⟩)
  (λc s X Y row hs hg hr=>by
   have⟨hc,vQ,t,e1,e2,e3⟩:=hs;refine⟨hc,vQ,t,e1,e2,?_⟩;rcases e3 with⟨e3,e4⟩|⟨e3,e4⟩
   .exact .inl ⟨e3,jjj w wA _ _ ji _ RO (β:=Unit) () X Y row e4 hg hr⟩
   .exact .inr ⟨e3,jjj w wA _ _ ji _ RO (β:=Unit) () X Y row e4 hg hr⟩)
  ⟨ew,bH.alloc _,ag,λt ht=>by simp at ht⟩
  (λx a' W=>∃Bx,W.heap[Bx]? =some (G #[J x.1.first,J x.1.last,J x.1.ahead,J x.1.own] 282 (0,0))/\w.heap.size+1+1+1+1<Bx/\a'={ tmps:=#[.agg #[U (some (O b o)) l.length cap],J m,.pointer (some (O w.heap.size 0)),.pointer (some (O (w.heap.size+1) 0)),.pointer (some (O (w.heap.size+1+1) 0)),.bool false,.pointer (some (O (w.heap.size+1+1+1) 0)),.pointer (some (O (w.heap.size+1+1+1+1) 0)),.pointer (some (O Bx 0)),.agg #[U (some (O b o)) l.length cap],.func (.func 270) #[] #[.pointer (some (O (w.heap.size+1+1+1+1+1) 0))],x.1.v,undef,undef,undef,undef,undef,undef,undef,undef,undef,undef,undef,undef,undef,undef,undef,undef,undef,undef,undef,undef,undef,undef,undef,undef,undef,undef],defers:=[] })
  (λx a' _ X Y row hs hg hr=>by
   have⟨Bx,k1,k2,k3⟩:=hs
   exact⟨Bx,jwx k1 hg (λr e=>(hr r e).2),k2,k3⟩)
  ?assign ?body ?done ?stop
 case assign=>
  rintro q bK ⟨⟨x0,x1,x2,x3⟩,hx⟩ W K ⟨hH,hv,hB,hp⟩ hK;simp only[vam.v]at *;have hlt:=hv.lt
  gi_wp2
  exact hK _ _ ((KeepsOthers.alloc _ _).from _) ⟨(ZU _ W).alloc (by have:=hB.size;omega) _,Zv.alloc _ _⟩ ⟨(Below.heap_alloc _ _ _ Q).trans hH,hv.alloc _,hB.alloc (by have:=hB.size;omega) _,hp⟩ ⟨W.heap.size,World.alloc_heap_new W _,Q,rfl⟩
 case body=>
  rintro q bK ⟨⟨x0,x1,x2,x3⟩,hx⟩ a' W hq ⟨r,hr⟩ ⟨hH,hv,hB,hp⟩ ⟨Bx,cR,ja,rfl⟩ hlt;have gt:=@vfb m ⟨⟨x0,x1,x2,x3⟩,hx⟩;have tJ:=@vd6 m ⟨⟨x0,x1,x2,x3⟩,hx⟩;have tK:=@vfa m ⟨⟨x0,x1,x2,x3⟩,hx⟩;have hc:=hv.cell;have OT:=hv.frozen;have dI:=hB.size;have Is:W.cell? (O (w.heap.size+1) 0)=some (J m):=(hB.cell (p:=(O (w.heap.size+1) 0)) (show w.heap.size+1<w.heap.size+1+1+1 by omega)).trans cM;have⟨⟨e0,e1,e2,e3⟩,_⟩:=jej cR;have⟨uf,ug⟩:=jej hH;have⟨f0,f1,f2,f3⟩:=uf;have OI:=ug 0;have OJ:=ug 1;have OK:=ug 2;have OL:=ug 3;obtain⟨i1,i2,i3,i4⟩:(-62135596800<=x0/\x0<=253402300799)/\(-62135596801<=x1/\x1<=253402300799)/\(-100000<=x2/\x2<=100000)/\(-100000<=x3/\x3<=100000):=by
   have fm:=hx;unfold vam.ok at fm;simp only[vB]at fm;exact⟨jax fm.1,jax fm.2.1,jax fm.2.2.1,jax fm.2.2.2⟩
  have⟨Pn,Po⟩:=i1;have⟨Pp,Pq⟩:=i3;have⟨Pr,Ps⟩:=i4;simp only[vam.v]at *;have lr:=jel W (w.heap.size+1+1+1) (J x0) (J x1) (J x2) (J x3);have aR:=jeq hB (w.heap.size+1+1+1) Q (J x0) (J x1) (J x2) (J x3);have⟨s0,s1,s2,s3⟩:=jly (x:=⟨0,0,0,0⟩) (y:=⟨x0,x1,x2,x3⟩) ⟨f0,f1,f2,f3⟩;simp only at s0 s1 s2 s3;have az:w.heap.size+1+1+1+1≠w.heap.size+1+1+1:=Q;clear hq hr ug;by_cases g0:m<x0-100000
  .clear gt tJ tK lr aR s0 s1 s2 s3
   gi_wp2
   exact⟨KeepsFrom.refl _ _,rfl,jz7 (s:=⟨⟨x0,x1,x2,x3⟩,hx⟩) hp g0 ⟨⟨f0,f1,f2,f3⟩,hc,hB⟩⟩
  .by_cases g1:x0+x2<=m
   .by_cases g2:m<x0+x3
    .have ht:=gt g1 g2
     clear gt tJ tK
     gi_wp2
     refine⟨(lr.trans (KeepsOthers.setCell _ _ _)).from _,rfl,jz6 hp ht ⟨⟨?_,?_,?_,?_⟩,?_,aR.setCell (p:=(O (w.heap.size+1+1+1+1) 0)) (show w.heap.size+1+1+1<=w.heap.size+1+1+1+1 by omega) _⟩⟩
     .rw[ZT _ _ _ _ (jc2 Q)];exact s0
     .rw[ZT _ _ _ _ (jc2 Q)];exact s1
     .rw[ZT _ _ _ _ (jc2 Q)];exact s2
     .rw[ZT _ _ _ _ (jc2 Q)];exact s3
     .refine Bf _ _ _ (u:=.bool false) ?_
      rw[ZT _ _ _ _ (jc2 Q),ZT _ _ _ _ (jc2 Q),ZT _ _ _ _ (jc2 Q),ZT _ _ _ _ (jc2 Q)];exact hc
    .have ht:=tK g2
     clear gt tJ tK lr aR s0 s1 s2 s3
     gi_wp2
     exact⟨KeepsFrom.refl _ _,⟨ZU _ _,Zv.refl _⟩,hH,hv,hB,jf7 hp ht⟩
   .have ht:=tJ g1
    clear gt tJ tK lr aR s0 s1 s2 s3
    gi_wp2
    exact⟨KeepsFrom.refl _ _,⟨ZU _ _,Zv.refl _⟩,hH,hv,hB,jf7 hp ht⟩
 case done=>
  rintro D ys W hD rfl ⟨hH,hv,hB,hp⟩ hK;obtain rfl:=HN hp;have⟨⟨f0,f1,f2,f3⟩,_⟩:=jej hH;have hc:=hv.cell;clear HS HN HC;have uE:=(hB.block (w.heap.size+1+1) Q).trans hR;have⟨⟨r0,r1,r2,r3⟩,fX⟩:=jej uE;have GN:=fX 0;have GO:=fX 1;have GP:=fX 2;have GQ:=fX 3;have lr:=jel W (w.heap.size+1+1) (J 0) (J 0) (J 0) (J 0);have aR:=jeq (eX.trans (hB.mono Q)) (w.heap.size+1+1) Q (J 0) (J 0) (J 0) (J 0);have⟨s0,s1,s2,s3⟩:=jly (x:=⟨0,0,0,0⟩) (y:=⟨0,0,0,0⟩) ⟨r0,r1,r2,r3⟩;have iO:w.heap.size+1+1+1≠w.heap.size+1+1:=Q;have gF:w.heap.size+1+1+1+1≠w.heap.size+1+1:=Q;clear fX cK qP;simp only at r0 r1 r2 r3 s0 s1 s2 s3 f0 f1 f2 f3
  gi_wp2
  refine wpIn_wide.2 ?_;go_region
  gi_wp2
  have iz:=(lr.trans (KeepsOthers.drew _)).same D _ hK rfl;have⟨WD,ol⟩:=ZL ((((((W.setCell (O (w.heap.size+1+1) 0) (J 0)).setCell (O (w.heap.size+1+1) 1) (J 0)).setCell (O (w.heap.size+1+1) 2) (J 0)).setCell (O (w.heap.size+1+1) 3) (J 0)).drew));rw[<- cell_drew_own]at s0 s1 s2 s3;rw[ol]at s0 s1 s2 s3 iz ⊢;have hP:=grownBy_putObj' WD D (.deferred none);have iC:∀r,some D=some r->∃o:Obj,WD.heap[r]? =some o/\o.isCells=false:=λr e=>by cases e;exact⟨_,iz,rfl⟩
  have q0:=cell_kept (W:=WD) s0 hP iC;have q1:=cell_kept (W:=WD) s1 hP iC;have q2:=cell_kept (W:=WD) s2 hP iC;have q3:=cell_kept (W:=WD) s3 hP iC;refine⟨M,.inl ⟨_,_,rfl,run_takeDeferred iz,?_⟩⟩;refine⟨.tuple #[.agg #[J 0,J 0,J 0,J 0],.bool false],?_,rfl,(aR.trans (by rw[<- ol];exact⟨rfl,rfl,rfl,ZD _,λ_ _=>rfl⟩)).trans (belowK_b (w:=w) (ZD _) _ D _ _ (by simp at hD;omega) iz rfl rfl)⟩;simp[results,Tryz.results243,go_sem,q0,q1,q2,q3]
 case stop=>
  rintro D c bK W hD ⟨k,hk,rfl⟩ ⟨rfl,vQ,s,e1,e2,e3⟩ hK;obtain⟨k',rfl⟩:∃k',k=k'+1:=by
   cases k with
   |zero=>simp[AA]at e1
   |succ k'=>exact⟨k',rfl⟩
  rw[vbD]at e1;obtain⟨rfl,e5⟩:=List.append_inj' e1 rfl;have e5:Re l k'=s:=by simpa using e5
  rcases e3 with⟨e3,uf,hc,hB⟩|⟨e3,uf,hc,hB⟩
  .obtain rfl:=HC k' Q e2 (by rw[e5];exact e3)
   have⟨f0,f1,f2,f3⟩:=uf;clear HS HN HC e1 e2 e3 e5;have uE:=(hB.block (w.heap.size+1+1) Q).trans hR;have⟨⟨r0,r1,r2,r3⟩,fX⟩:=jej uE;have GN:=fX 0;have GO:=fX 1;have GP:=fX 2;have GQ:=fX 3;have lr:=jel W (w.heap.size+1+1) (J 0) (J 0) (J 0) (J 0);have aR:=jeq (eX.trans (hB.mono Q)) (w.heap.size+1+1) Q (J 0) (J 0) (J 0) (J 0);have⟨s0,s1,s2,s3⟩:=jly (x:=⟨0,0,0,0⟩) (y:=⟨0,0,0,0⟩) ⟨r0,r1,r2,r3⟩;have iO:w.heap.size+1+1+1≠w.heap.size+1+1:=Q;have gF:w.heap.size+1+1+1+1≠w.heap.size+1+1:=Q;clear fX cK qP;simp only at r0 r1 r2 r3 s0 s1 s2 s3 f0 f1 f2 f3
   gi_wp2
   refine wpIn_wide.2 ?_;go_region
   gi_wp2
   have iz:=(lr.trans (KeepsOthers.drew _)).same D _ hK rfl;have⟨WD,ol⟩:=ZL ((((((W.setCell (O (w.heap.size+1+1) 0) (J 0)).setCell (O (w.heap.size+1+1) 1) (J 0)).setCell (O (w.heap.size+1+1) 2) (J 0)).setCell (O (w.heap.size+1+1) 3) (J 0)).drew));rw[<- cell_drew_own]at s0 s1 s2 s3;rw[ol]at s0 s1 s2 s3 iz ⊢;have hP:=grownBy_putObj' WD D (.deferred none);have iC:∀r,some D=some r->∃o:Obj,WD.heap[r]? =some o/\o.isCells=false:=λr e=>by cases e;exact⟨_,iz,rfl⟩
   have q0:=cell_kept (W:=WD) s0 hP iC;have q1:=cell_kept (W:=WD) s1 hP iC;have q2:=cell_kept (W:=WD) s2 hP iC;have q3:=cell_kept (W:=WD) s3 hP iC;refine⟨M,.inl ⟨_,_,rfl,run_takeDeferred iz,?_⟩⟩;refine⟨.tuple #[.agg #[J 0,J 0,J 0,J 0],.bool false],?_,rfl,(aR.trans (by rw[<- ol];exact⟨rfl,rfl,rfl,ZD _,λ_ _=>rfl⟩)).trans (belowK_b (w:=w) (ZD _) _ D _ _ (by simp at hD;omega) iz rfl rfl)⟩;simp[results,Tryz.results243,go_sem,q0,q1,q2,q3]
  .have hG:=HS k' Q e2 (by rw[e5];exact e3)
   rw[e5]at hG;obtain rfl:=hG;clear HS HN HC e1 e2 e3 e5;obtain⟨⟨y0,y1,y2,y3⟩,hy⟩:=s;have⟨f0,f1,f2,f3⟩:=uf;have uE:=(hB.block (w.heap.size+1+1) Q).trans hR;have⟨⟨r0,r1,r2,r3⟩,fX⟩:=jej uE;have GN:=fX 0;have GO:=fX 1;have GP:=fX 2;have GQ:=fX 3;have lr:=jel W (w.heap.size+1+1) (J y0) (J y1) (J y2) (J y3);have aR:=jeq (eX.trans (hB.mono Q)) (w.heap.size+1+1) Q (J y0) (J y1) (J y2) (J y3);have⟨s0,s1,s2,s3⟩:=jly (x:=⟨0,0,0,0⟩) (y:=⟨y0,y1,y2,y3⟩) ⟨r0,r1,r2,r3⟩;have iO:w.heap.size+1+1+1≠w.heap.size+1+1:=Q;have gF:w.heap.size+1+1+1+1≠w.heap.size+1+1:=Q;clear fX cK qP;simp only at r0 r1 r2 r3 s0 s1 s2 s3 f0 f1 f2 f3
   gi_wp2
   refine wpIn_wide.2 ?_;go_region
   gi_wp2
   have iz:=(lr.trans (KeepsOthers.drew _)).same D _ hK rfl;have⟨WD,ol⟩:=ZL ((((((W.setCell (O (w.heap.size+1+1) 0) (J y0)).setCell (O (w.heap.size+1+1) 1) (J y1)).setCell (O (w.heap.size+1+1) 2) (J y2)).setCell (O (w.heap.size+1+1) 3) (J y3)).drew));rw[<- cell_drew_own]at s0 s1 s2 s3;rw[ol]at s0 s1 s2 s3 iz ⊢;have hP:=grownBy_putObj' WD D (.deferred none);have iC:∀r,some D=some r->∃o:Obj,WD.heap[r]? =some o/\o.isCells=false:=λr e=>by cases e;exact⟨_,iz,rfl⟩
   have q0:=cell_kept (W:=WD) s0 hP iC;have q1:=cell_kept (W:=WD) s1 hP iC;have q2:=cell_kept (W:=WD) s2 hP iC;have q3:=cell_kept (W:=WD) s3 hP iC;refine⟨M,.inl ⟨_,_,rfl,run_takeDeferred iz,?_⟩⟩;refine⟨.tuple #[.agg #[J y0,J y1,J y2,J y3],.bool true],?_,rfl,(aR.trans (by rw[<- ol];exact⟨rfl,rfl,rfl,ZD _,λ_ _=>rfl⟩)).trans (belowK_b (w:=w) (ZD _) _ D _ _ (by simp at hD;omega) iz rfl rfl)⟩;simp[results,Tryz.results243,go_sem,q0,q1,q2,q3]
end
theorem js3(w:World)(t:TypeId):(w.alloc (G #[] t)).ownsRow w.heap.size t 1 (U (some (O w.heap.size 0)) 0 0) 0 []:=
 ⟨rfl,.inr ⟨w.heap.size,0,#[],rfl,ZD _,World.alloc_heap_new w _,ZD _,by unfold maxLen;omega,rfl,rfl⟩⟩
theorem js2{fI:Nat}{n:Nat}(h:w.ownsRow base e size v n xs)(hb:fI<=base):w.ownsRow fI e size v n xs:=by
 refine⟨h.1,?_⟩;rcases h.2 with h|⟨g,cap,cur,e1,e2,e3⟩
 .exact .inl h
 .exact .inr ⟨g,cap,cur,e1,Q,e3⟩
theorem jg8(l:List ZK)(v:Value)(m:Int)(hT:Js l)(m1: -62135596800<=m)(m2:m<=253402300799)(w:World)(hv:Zy w v l):
  C 146 #[v,J m] w λe W'=>∃v',e=V v'/\W'.ownsRow w.heap.size 2 1 v' (jdn l m).length ((jdn l m).map (Value.int .i64))/\Bw w W':=by
 have au:=hT.len;have⟨i0,hi,aG,aH,aF⟩:=info_parts j09;obtain⟨a,cap,rfl,hA⟩:=hv;obtain⟨f,hf⟩:∃x,l[0]? =some x:=⟨_,ZV Q⟩;obtain⟨b,o,rfl,hd⟩:=hA.at (i:=0) (r:=f.cs) (by rw[Z8,hf];rfl);have mt:b<w.heap.size:=ZI (hd 0 _ rfl);clear hd hf;have aT:∀(wr:World),Bw w wr->∀(k:Nat) (x:ZK),l[k]? =some x->wr.cell? (O b (o+k*4))=some (J x.at_)/\wr.cell? (O b (o+k*4+1))=some (J x.Zq):=λwr hB k x hx=>by
  have⟨b',o',he,hc⟩:=hA.at (i:=k) (r:=x.cs) (by rw[Z8,hx];rfl);injection he with he
  injection he with u1 u2
  subst u1 u2;exact⟨(hB.cell (p:=(O b _)) mt).trans (hc 0 _ rfl),(hB.cell (p:=(O b _)) mt).trans (hc 1 _ rfl)⟩
 have HI:Hid (jdn l m=Mh m (AA l l.length)):=rfl;unfold C;go_in;go_wp2;have⟨wA,cK⟩:=ZL ((w.alloc (G #[U (some (O b o)) l.length cap] 158)));have ji:wA.heap.size=w.heap.size+1:=by rw[<- cK];simp
 have eX:Bw w wA:=by rw[<- cK];exact ZA w _
 have cB:wA.cell? (O w.heap.size 0)=some (U (some (O b o)) l.length cap):=by rw[<- cK];simp[go_sem]
 have hE:=js3 wA 2;rw[ji]at hE;rw[cK];go_loopw [5,6] (λs5 s6 wr=>∃k:Nat,k<=l.length/\s6=J k/\wr.ownsRow (w.heap.size+1) 2 1 s5 (Mh m (AA l k)).length ((Mh m (AA l k)).map (Value.int .i64))/\Below (w.heap.size+1) wA wr) (λ_ s6 _=>l.length-(intOf s6).toNat)
 .exact⟨0,Q,rfl,hE,(ZU _ _).alloc Q _⟩
 ·
  obtain⟨k,hk,rfl,ai,hB⟩:=hrel;have dI:=hB.size;have eM:=eX.trans (hB.mono (vQs _));have NY:wr.cell? (O w.heap.size 0)=some (U (some (O b o)) l.length cap):=(hB.cell (p:=(O w.heap.size 0)) (show w.heap.size<w.heap.size+1 by omega)).trans cB;have iP:=jib m (AA l k);rw[jd0]at iP;by_cases hlt:k<l.length
  .have⟨x,hx⟩:=DV hlt
   have⟨c0,c1⟩:=aT wr eM k x hx;have⟨z1,z2⟩:=jax (jnl hT (ui hx));by_cases hlt2:k+1<l.length
   .obtain⟨y,hy⟩:∃y,l[k+1]? =some y:=⟨_,ZV hlt2⟩
    have d0:=(aT wr eM (k+1) y hy).1;have y1:=hT.top _ y hy;have y2:=jpe hT hy;have HV:Hid ((Re l k).1.first=x.at_/\(Re l k).1.last=y.at_-1/\(Re l k).1.own=x.Zq):=by
     simp only[Hid];rw[jdg hT hlt];unfold jh3;rw[hx,hy];exact⟨rfl,rfl,rfl⟩
    clear hx hy aT;by_cases g1:x.at_<=m-x.Zq
    .by_cases g2:m-x.Zq<=y.at_-1
     .have HS:Hid (Mh m (AA l (k+1))=Mh m (AA l k)++[m-x.Zq]):=by simp only[Hid];rw[vbD];exact(vet (by rw[HV.out.1,HV.out.2.2];exact g1) (by rw[HV.out.2.1,HV.out.2.2];exact g2)).trans (by rw[HV.out.2.2])
      have yC:Hid (Mh m (AA l (k+1))=Mh m (AA l (k+1))):=rfl;have⟨o,ho⟩:=ZL (Mh m (AA l k));rw[ho]at ai HS iP;clear yC HV ho
      go_wp2_with (first
       |(at_builtin;refine wpList_append_own _ rfl _ _ 90 rfl (w.heap.size+1) 2 i0 (J 0) 1 8 Tryz.underlying90 hi aG aH aF rfl RN _ _ _ rfl (ai.alloc _) ⟨wr.heap.size,0,none⟩ 1 1 [J (m-x.Zq)] rfl rfl ?c1 ?c2 ?c3 ?c4 ?c5 ?_)
       |fail)
      case c1=>exact cell_one_new _ _ _
      case c2=>intro u hu;simp at hu;subst hu;rfl
      case c3=>unfold maxLen;omega
      case c4=>omega
      case c5=>simp;omega
      .intro v' w1 ao af _
       have aj:Below (w.heap.size+1) wA w1:=(hB.alloc Q _).grown af RO (λj hj=>(ai.lt j hj).1);have HO:Hid (w1.ownsRow (w.heap.size+1) 2 1 v' (o++[m-x.Zq]).length ((o++[m-x.Zq]).map (Value.int .i64))):=by simpa [Hid]using ao
       clear af ao ai;go_wp2;go_roundw
       .exact⟨k+1,Q,RP,by rw[HS.out];exact HO.out,aj⟩
       .simp[intOf];omega
     .have HS:Hid (Mh m (AA l (k+1))=Mh m (AA l k)):=by simp only[Hid];rw[vbD];exact(vev (by rw[HV.out.2.1,HV.out.2.2];exact g2))
      clear HV;go_wp2;go_roundw
      .exact⟨k+1,Q,RP,by rw[HS.out];exact ai,hB⟩
      .simp[intOf];omega
    .have HS:Hid (Mh m (AA l (k+1))=Mh m (AA l k)):=by simp only[Hid];rw[vbD];exact(veu (by rw[HV.out.1,HV.out.2.2];exact g1))
     clear HV;go_wp2;go_roundw
     .exact⟨k+1,Q,RP,by rw[HS.out];exact ai,hB⟩
     .simp[intOf];omega
   .have hy:l[k+1]? =none:=List.getElem?_eq_none Q
    have HV:Hid ((Re l k).1.first=x.at_/\(Re l k).1.last=253402300799/\(Re l k).1.own=x.Zq):=by
     simp only[Hid];rw[jdg hT hlt];unfold jh3;rw[hx,hy];exact⟨rfl,rfl,rfl⟩
    clear hx hy aT;by_cases g1:x.at_<=m-x.Zq
    .by_cases g2:m-x.Zq<=253402300799
     .have HS:Hid (Mh m (AA l (k+1))=Mh m (AA l k)++[m-x.Zq]):=by simp only[Hid];rw[vbD];exact(vet (by rw[HV.out.1,HV.out.2.2];exact g1) (by rw[HV.out.2.1,HV.out.2.2];exact g2)).trans (by rw[HV.out.2.2])
      have yC:Hid (Mh m (AA l (k+1))=Mh m (AA l (k+1))):=rfl;have⟨o,ho⟩:=ZL (Mh m (AA l k));rw[ho]at ai HS iP;clear yC HV ho
      go_wp2_with (first
       |(at_builtin;refine wpList_append_own _ rfl _ _ 90 rfl (w.heap.size+1) 2 i0 (J 0) 1 8 Tryz.underlying90 hi aG aH aF rfl RN _ _ _ rfl (ai.alloc _) ⟨wr.heap.size,0,none⟩ 1 1 [J (m-x.Zq)] rfl rfl ?d1 ?d2 ?d3 ?d4 ?d5 ?_)
       |fail)
      case d1=>exact cell_one_new _ _ _
      case d2=>intro u hu;simp at hu;subst hu;rfl
      case d3=>unfold maxLen;omega
      case d4=>omega
      case d5=>simp;omega
      .intro v' w1 ao af _
       have aj:Below (w.heap.size+1) wA w1:=(hB.alloc Q _).grown af RO (λj hj=>(ai.lt j hj).1);have HO:Hid (w1.ownsRow (w.heap.size+1) 2 1 v' (o++[m-x.Zq]).length ((o++[m-x.Zq]).map (Value.int .i64))):=by simpa [Hid]using ao
       clear af ao ai;go_wp2;go_roundw
       .exact⟨k+1,Q,RP,by rw[HS.out];exact HO.out,aj⟩
       .simp[intOf];omega
     .have HS:Hid (Mh m (AA l (k+1))=Mh m (AA l k)):=by simp only[Hid];rw[vbD];exact(vev (by rw[HV.out.2.1,HV.out.2.2];exact g2))
      clear HV;go_wp2;go_roundw
      .exact⟨k+1,Q,RP,by rw[HS.out];exact ai,hB⟩
      .simp[intOf];omega
    .have HS:Hid (Mh m (AA l (k+1))=Mh m (AA l k)):=by simp only[Hid];rw[vbD];exact(veu (by rw[HV.out.1,HV.out.2.2];exact g1))
     clear HV;go_wp2;go_roundw
     .exact⟨k+1,Q,RP,by rw[HS.out];exact ai,hB⟩
     .simp[intOf];omega
  .obtain rfl:k=l.length:=Q
   go_wp2;go_ret;exact⟨_,rfl,by rw[HI.out];exact js2 ai Q,eM⟩
def jhl(L:List Int)(f:Int):Int × Int:=if 1<L.length/\f=0 then(0,9)else(L[if f=2 then L.length-1 else 0]?.getD 0,0)
theorem ve8{L:List Int}{f:Int}(h1:1<L.length)(h2:f=0):jhl L f=(0,9):=by unfold jhl;rw[if_pos ⟨h1,h2⟩]
theorem ve7{L:List Int}{f:Int}(h2:f=2){x:Int}(hx:L[L.length-1]? =some x):jhl L f=(x,0):=by unfold jhl;rw[if_neg Q,if_pos h2,hx];rfl
theorem ve6{L:List Int}{f:Int}(h:¬(1<L.length/\f=0))(h2:f≠2){x:Int}(hx:L[0]? =some x):jhl L f=(x,0):=by unfold jhl;rw[if_neg h,if_neg h2,hx];rfl
def vbA(vGG:Option QQ)(n g:Int):Int × Int:=match vGG with
 |none=>(0,4)
 |some s=>if g=0 then(0,8)else if g=1 then jh0 (n-s.1.ahead)else jh0 (n-s.1.own)
def vbg(l:List ZK)(n g f:Int):Int × Int:=if (jdn l n).length=0 then vbA (vbq l n) n g else jhl (jdn l n) f
def vaI(l:List ZK)(n g f:Int):Int × Int:=if vaq l=true/\ZX n (-62135596800) 253402300799=true/\ZX g 0 2=true/\ZX f 0 2=true then vbg l n g f else(0,1)
theorem jyy(h:vaq l=false):vaI l n g f=(0,1):=by unfold vaI;rw[if_neg (by rw[h];simp)]
theorem jyx(h:ZX n (-62135596800) 253402300799=false):vaI l n g f=(0,1):=by unfold vaI;rw[if_neg (by rw[h];simp)]
theorem jyw(h:ZX g 0 2=false):vaI l n g f=(0,1):=by unfold vaI;rw[if_neg (by rw[h];simp)]
theorem jyv(h:ZX f 0 2=false):vaI l n g f=(0,1):=by unfold vaI;rw[if_neg (by rw[h];simp)]
theorem jri(h1:vaq l=true)(h2:ZX n (-62135596800) 253402300799=true)(h3:ZX g 0 2=true)(h4:ZX f 0 2=true):vaI l n g f=vbg l n g f:=by unfold vaI;rw[if_pos ⟨h1,h2,h3,h4⟩]
theorem jbw(n:Int)(w:World):
  C 95 #[J n] w λe w'=>e=V (.bool (ZX n 0 2))/\w'=w:=by
 by_cases h:0<=n
 .unfold C;go_in
  go_wp2;go_ret;exact⟨ZG (by unfold ZX;simp[h]),rfl⟩
 .unfold C;go_in
  go_wp2;go_ret;exact⟨ZG (jj8 Q).symm,rfl⟩
theorem jfp{L:List Int}{n:Nat}(hn:L.length=n+1)(h:w.ownsRow base 2 1 v L.length (L.map (Value.int .i64))):∃g cap,v=so g (n+1) cap/\g<w.heap.size/\base<=g/\∀i x,L[i]? =some x->w.cell? (O g i)=some (J x):=by
 rw[hn]at h;obtain⟨g,cap,rfl⟩:=ownsRow_succ h;have hg:=h.lt g rfl;refine⟨g,cap,rfl,hg.2,hg.1,λi x hx=>?_⟩;have hi:=(pO hx).1;rw[h.cellAt i Q,Z8,hx];rfl
theorem jge(L:List Int)(v:Value)(f:Int)(w:World)(base:Nat)(hL:0<L.length)(hm:L.length<=600)(h:w.ownsRow base 2 1 v L.length (L.map (Value.int .i64))):
  C 206 #[v,J f] w λe w'=>e=V (xW (jhl L f))/\Bw w w':=by
 obtain⟨n,hn⟩:∃n,L.length=n+1:=⟨L.length-1,Q⟩;obtain⟨g,cap,rfl,hg,_,hc⟩:=jfp hn h;obtain⟨x,hx⟩:∃x,L[0]? =some x:=⟨_,ZV Q⟩;obtain⟨y,hy⟩:∃y,L[n]? =some y:=⟨_,ZV Q⟩;have c0:=hc 0 x hx;have c1:=hc n y hy;have ag:=λo=>ZA w o
 have F1:=λh1 h2=>@ve8 L f h1 h2
 have F2:=λh2=>@ve7 L f h2 y (by rw[hn];exact hy)
 have F3:=λh1 h2=>@ve6 L f h1 h2 x hx
 rw[hn]at F1 F3 hm;generalize jhl L f=R at *;have az:g≠w.heap.size:=Q;clear hc hx hy h hn hL;by_cases h1:0<n
 .by_cases h2:f=0
  .obtain rfl:=F1 Q h2
   subst h2;clear F1 F2 F3;unfold C;go_in;go_wp2;exact ZM (v:=xW (0,9)) (by simp[results,Tryz.results206,go_sem,xW]) rfl ⟨rfl,ag _⟩
  .by_cases h3:f=2
   .obtain rfl:=F2 h3
    subst h3;clear F1 F2 F3;unfold C;go_in;go_wp2;exact ZM (v:=xW (y,0)) (by simp[results,Tryz.results206,go_sem,xW]) rfl ⟨rfl,ag _⟩
   .obtain rfl:=F3 Q h3
    have e1:(f==0)=false:=by simp[h2]
    have e2:(f==2)=false:=by simp[h3]
    clear F1 F2 F3;unfold C;go_in;go_wp2;exact ZM (v:=xW (x,0)) (by simp[results,Tryz.results206,go_sem,xW]) rfl ⟨rfl,ag _⟩
 .obtain rfl:n=0:=Q
  by_cases h3:f=2
  .obtain rfl:=F2 h3
   subst h3;clear F1 F2 F3 c0;unfold C;go_in;go_wp2;exact ZM (v:=xW (y,0)) (by simp[results,Tryz.results206,go_sem,xW]) rfl ⟨rfl,ag _⟩
  .obtain rfl:=F3 Q h3
   have e2:(f==2)=false:=by simp[h3]
   clear F1 F2 F3 c1;unfold C;go_in;go_wp2;exact ZM (v:=xW (x,0)) (by simp[results,Tryz.results206,go_sem,xW]) rfl ⟨rfl,ag _⟩
theorem jw4(n g:Int):vbA none n g=(0,4):=rfl
theorem j1b(s:QQ)(n:Int):vbA (some s) n 0=(0,8):=rfl
theorem j1a(s:QQ)(n:Int):vbA (some s) n 1=jh0 (n-s.1.ahead):=rfl
theorem vfc(s:QQ){n g:Int}(h0:g≠0)(h1:g≠1):vbA (some s) n g=jh0 (n-s.1.own):=by unfold vbA;simp only;rw[if_neg h0,if_neg h1]
theorem j25(s:QQ):(-100000<=s.1.ahead/\s.1.ahead<=100000)/\(-100000<=s.1.own/\s.1.own<=100000):=by
 have fm:=s.2;unfold vam.ok at fm;simp only[vB]at fm;exact⟨jax fm.2.2.1,jax fm.2.2.2⟩
theorem jhh(l:List ZK)(v:Value)(m g:Int)(hT:Js l)(m1: -62135596800<=m)(m2:m<=253402300799)(w:World)(hv:Zy w v l):
  C 205 #[v,J m,J g] w λe w'=>e=V (xW (vbA (vbq l m) m g))/\Bw w w':=by
 have hG:=λv w h=>jtt l v m hT m1 m2 w h
 generalize vbq l m=vGG at *;obtain⟨a,cap,rfl,hA⟩:=hv;have hv:Zy w (.agg #[U a l.length cap]) l:=⟨a,cap,rfl,hA⟩;have ag:=λo o2=>(ZA w o).alloc M o2
 have br:∀w1,Below ((w.alloc (G #[U a l.length cap] 158)).alloc (G #[J 0,J 0] 163)).heap.size ((w.alloc (G #[U a l.length cap] 158)).alloc (G #[J 0,J 0] 163)) w1->
   (w1.cell? (O (w.heap.size+1) 0)=some (J 0)/\w1.cell? (O (w.heap.size+1) 1)=some (J 0))/\(∀i,w1.frozen? (O (w.heap.size+1) i)=false)/\w1.cell? (O w.heap.size 0)=some (U a l.length cap)/\Bw w w1:=λw1 hb1=>by
  have⟨aX,dg⟩:=Z4 hb1;exact⟨⟨(aX _ _ M).trans RQ,(aX _ _ M).trans RQ⟩,λi=>(dg _ _ M).trans RQ,(aX _ _ RO).trans RQ,(ag _ _).trans (hb1.mono RO)⟩
 have dM:∀(w1:World) (P:Int × Int) o,(w1.cell? (O (w.heap.size+1) 0)=some (J 0)/\w1.cell? (O (w.heap.size+1) 1)=some (J 0))->(∀i,w1.frozen? (O (w.heap.size+1) i)=false)->Bw w w1->∀w2,Below (w1.alloc o).heap.size (w1.alloc o) w2->(w2.cell? (O (w.heap.size+1) 0)=some (J 0)/\w2.cell? (O (w.heap.size+1) 1)=some (J 0))/\(w2.frozen? (O (w.heap.size+1) 0)=false/\w2.frozen? (O (w.heap.size+1) 1)=false)/\Bw w w2:=λw1 P o h1 h2 hB w2 ac=>by
  have ha:Bw w1 w2:=(ZA w1 o).trans (ac.mono M);have⟨aX,dg⟩:=Z4 ha;have hlt:=ZI h1.1;exact⟨⟨(aX _ _ hlt).trans h1.1,(aX _ _ hlt).trans h1.2⟩,⟨(dg _ _ hlt).trans (h2 0),(dg _ _ hlt).trans (h2 1)⟩,(Zp hB ha)⟩
 cases vGG with
 |none=>
  rw[jw4];simp only[vd7,vam.v,Option.isSome]at hG;unfold C;go_in;go_wp2_with fail;refine(hG _ _ (hv.below (ag _ _))).mono ?_;rintro e w1 ⟨rfl,hb1⟩;have⟨⟨r0,r1⟩,f,t0,aj⟩:=br w1 hb1;have f0:=f 0;have f1:=f 1;have az:w.heap.size+1≠w1.heap.size:=by have:=ZI r0;simp at this;omega
  have⟨⟨q0,q1⟩,⟨g0,g1⟩,dV⟩:=dM w1 (0,0) (G #[J 0,J 0,J 0,J 0] 282) ⟨r0,r1⟩ f aj _ (ZU _ _);have⟨s0,s1⟩:=ja4 (v0:=J 0) (v1:=J 4) q0 q1;clear f br dM hb1;go_wp2;exact ZM (v:=xW (0,4)) (by simp[results,Tryz.results205,go_sem,xW,s0,s1]) rfl ⟨rfl,(dV.setCell (vQs _) _).setCell (vQs _) _⟩
 |some s=>
  have⟨⟨a1,a2⟩,o1,o2⟩:=j25 s;have R0:=j1b s m;have R1:=j1a s m;have R2:=λh0 h1=>@vfc s m g h0 h1
  simp only[vd7,vam.v,Option.isSome]at hG;obtain⟨⟨x0,x1,x2,x3⟩,hx⟩:=s;simp only at hG a1 a2 o1 o2 R1 R2;have Fy:=λw=>jdu (m-x2) w
  have lA:=λw=>jdu (m-x3) w
  generalize jh0 (m-x2)=P1 at *;generalize jh0 (m-x3)=P2 at *;have⟨p1,p2⟩:=P1;have⟨p3,p4⟩:=P2;unfold xW at Fy lA ⊢;by_cases h0:g=0
  .subst h0
   rw[R0];clear R0 R1 R2;unfold C;go_in;go_wp2_with fail;refine(hG _ _ (hv.below (ag _ _))).mono ?_;rintro e w1 ⟨rfl,hb1⟩;have⟨⟨r0,r1⟩,f,t0,aj⟩:=br w1 hb1;have f0:=f 0;have f1:=f 1;have az:w.heap.size+1≠w1.heap.size:=by have:=ZI r0;simp at this;omega
   have⟨⟨q0,q1⟩,⟨g0,g1⟩,dV⟩:=dM w1 (0,0) (G #[J x0,J x1,J x2,J x3] 282) ⟨r0,r1⟩ f aj _ (ZU _ _);have⟨s0,s1⟩:=ja4 (v0:=J 0) (v1:=J 8) q0 q1;clear f br dM hb1;go_wp2;exact ZM (v:=xW (0,8)) (by simp[results,Tryz.results205,go_sem,xW,s0,s1]) rfl ⟨rfl,(dV.setCell (vQs _) _).setCell (vQs _) _⟩
  .have e0:(g==0)=false:=by simp[h0]
   by_cases h1:g=1
   .subst h1
    rw[R1];clear R0 R1 R2 e0;unfold C;go_in;go_wp2_with fail;refine(hG _ _ (hv.below (ag _ _))).mono ?_;rintro e w1 ⟨rfl,hb1⟩;have⟨⟨r0,r1⟩,f,t0,aj⟩:=br w1 hb1;have KK:=dM w1 (0,0) (G #[J x0,J x1,J x2,J x3] 282) ⟨r0,r1⟩ f aj;clear f br dM hb1;go_wp2_with fail;refine(Fy _).mono ?_;rintro e w2 ⟨rfl,ac⟩;have⟨⟨q0,q1⟩,⟨g0,g1⟩,dV⟩:=KK w2 ac;have⟨s0,s1⟩:=ja4 (v0:=J p1) (v1:=J p2) q0 q1;clear KK ac;go_wp2;exact ZM (v:=.agg #[J p1,J p2]) (by simp[results,Tryz.results205,go_sem,s0,s1]) rfl ⟨rfl,(dV.setCell (vQs _) _).setCell (vQs _) _⟩
   .have e1:(g==1)=false:=by simp[h1]
    rw[R2 h0 h1];clear R0 R1 R2;unfold C;go_in;go_wp2_with fail;refine(hG _ _ (hv.below (ag _ _))).mono ?_;rintro e w1 ⟨rfl,hb1⟩;have⟨⟨r0,r1⟩,f,t0,aj⟩:=br w1 hb1;have KK:=dM w1 (0,0) (G #[J x0,J x1,J x2,J x3] 282) ⟨r0,r1⟩ f aj;clear f br dM hb1;go_wp2_with fail;refine(lA _).mono ?_;rintro e w2 ⟨rfl,ac⟩;have⟨⟨q0,q1⟩,⟨g0,g1⟩,dV⟩:=KK w2 ac;have⟨s0,s1⟩:=ja4 (v0:=J p3) (v1:=J p4) q0 q1;clear KK ac;go_wp2;exact ZM (v:=.agg #[J p3,J p4]) (by simp[results,Tryz.results205,go_sem,s0,s1]) rfl ⟨rfl,(dV.setCell (vQs _) _).setCell (vQs _) _⟩
theorem jic{n:Nat}(h:w.ownsRow base e size v n xs):∃a c,v=U a n c:=by
 rcases h.2 with⟨rfl,rfl⟩|⟨g,cap,cur,rfl,_⟩
 .exact⟨_,_,rfl⟩
 .exact⟨_,_,rfl⟩
theorem jwk(l:List ZK)(n:Int):(jdn l n).length<=l.length:=by
 have:=jib n (AA l l.length);rw[jd0]at this;exact this
theorem vf0{l:List ZK}{n g f:Int}(h:(jdn l n).length=0):vbg l n g f=vbA (vbq l n) n g:=by unfold vbg;rw[if_pos h]
theorem vfZ{l:List ZK}{n g f:Int}(h:(jdn l n).length≠0):vbg l n g f=jhl (jdn l n) f:=by unfold vbg;rw[if_neg h]
theorem jos(l:List ZK)(v:Value)(n g f:Int)(w:World)(hv:Zy w v l)(lH:∀r∈l,r.ok)(hl:l.length<=1048576):
  C 164 #[v,J n,J g,J f] w λe w'=>e=V (xW (vaI l n g f))/\Bw w w':=by
 obtain⟨a,cap,rfl,hA⟩:=hv;have hv:Zy w (.agg #[U a l.length cap]) l:=⟨a,cap,rfl,hA⟩;have ag:=λo o2=>(ZA w o).alloc M o2
 have br:∀w1,Below ((w.alloc (G #[U a l.length cap] 158)).alloc (G #[J 0,J 0] 163)).heap.size ((w.alloc (G #[U a l.length cap] 158)).alloc (G #[J 0,J 0] 163)) w1->
   (w1.cell? (O (w.heap.size+1) 0)=some (J 0)/\w1.cell? (O (w.heap.size+1) 1)=some (J 0))/\(∀i,w1.frozen? (O (w.heap.size+1) i)=false)/\w1.cell? (O w.heap.size 0)=some (U a l.length cap)/\Bw w w1:=λw1 hb1=>by
  have⟨aX,dg⟩:=Z4 hb1;exact⟨⟨(aX _ _ M).trans RQ,(aX _ _ M).trans RQ⟩,λi=>(dg _ _ M).trans RQ,(aX _ _ RO).trans RQ,(ag _ _).trans (hb1.mono RO)⟩
 have hM:=λw=>jg0 n w
 have hG:=λw=>jbw g w
 have hF:=λw=>jbw f w
 have hI:=λw (h:Zy w (.agg #[U a l.length cap]) l)=>jjh l _ w h lH hl
 cases hn:ZX n (-62135596800) 253402300799
 .rw[jyx hn]
  rw[hn]at hM;clear hn hG hF hI;unfold C;go_in;go_wp2_with fail;refine(hM _).mono ?_;rintro e wM ⟨rfl,rfl⟩;go_wp2;exact ZM (v:=xW (0,1)) (by simp[results,Tryz.results164,go_sem,xW]) rfl ⟨rfl,ag _ _⟩
 rw[hn]at hM;cases hg:ZX g 0 2
 .rw[jyw hg]
  rw[hg]at hG;clear hn hg hF hI;unfold C;go_in;go_wp2_with fail;refine(hM _).mono ?_;rintro e wM ⟨rfl,rfl⟩;go_wp2_with fail;refine(hG _).mono ?_;rintro e wM ⟨rfl,rfl⟩;go_wp2;exact ZM (v:=xW (0,1)) (by simp[results,Tryz.results164,go_sem,xW]) rfl ⟨rfl,ag _ _⟩
 rw[hg]at hG;cases hf:ZX f 0 2
 .rw[jyv hf]
  rw[hf]at hF;clear hn hg hf hI;unfold C;go_in;go_wp2_with fail;refine(hM _).mono ?_;rintro e wM ⟨rfl,rfl⟩;go_wp2_with fail;refine(hG _).mono ?_;rintro e wM ⟨rfl,rfl⟩;go_wp2_with fail;refine(hF _).mono ?_;rintro e wM ⟨rfl,rfl⟩;go_wp2;exact ZM (v:=xW (0,1)) (by simp[results,Tryz.results164,go_sem,xW]) rfl ⟨rfl,ag _ _⟩
 rw[hf]at hF;cases ht:vaq l
 .rw[jyy ht]
  rw[ht]at hI;clear hn hg hf ht;unfold C;go_in;go_wp2_with fail;refine(hM _).mono ?_;rintro e wM ⟨rfl,rfl⟩;go_wp2_with fail;refine(hG _).mono ?_;rintro e wM ⟨rfl,rfl⟩;go_wp2_with fail;refine(hF _).mono ?_;rintro e wM ⟨rfl,rfl⟩;go_wp2_with fail;refine(hI _ (hv.below (ag _ _))).mono ?_;rintro e w1 ⟨rfl,hb1⟩;have⟨⟨r0,r1⟩,fz,t0,aj⟩:=br w1 hb1;have f0:=fz 0;have f1:=fz 1;have⟨s0,s1⟩:=ja4 (v0:=J 0) (v1:=J 1) r0 r1;clear fz br hb1;go_wp2;exact ZM (v:=xW (0,1)) (by simp[results,Tryz.results164,go_sem,xW,s0,s1]) rfl ⟨rfl,(aj.setCell (vQs _) _).setCell (vQs _) _⟩
 rw[jri ht hn hg hf];rw[ht]at hI;have hR:=j0x ht;have⟨n1,n2⟩:=jax hn;have au:=hR.len;have i7:=jwk l n;have hS:=λw (h:Zy w (.agg #[U a l.length cap]) l)=>joj l _ n hR n1 n2 w h
 have hP:=λw (h:Zy w (.agg #[U a l.length cap]) l)=>jhh l _ n g hR n1 n2 w h
 have hD:=λv w base h1 h2 h3=>jge (jdn l n) v f w base h1 h2 h3
 have E1:=@vf0 l n g f;have E2:=@vfZ l n g f;clear hn hg hf ht;generalize jdn l n=L at *;generalize vbA (vbq l n) n g=Pg at *;generalize jhl L f=Pf at *;generalize vbg l n g f=R at *;by_cases hL:L.length=0
 .obtain rfl:=E1 hL
  obtain⟨p1,p2⟩:=R;rw[hL]at hS;unfold xW at hP ⊢;clear E1 E2 hD;unfold C;go_in;go_wp2_with fail;refine(hM _).mono ?_;rintro e wM ⟨rfl,rfl⟩;go_wp2_with fail;refine(hG _).mono ?_;rintro e wM ⟨rfl,rfl⟩;go_wp2_with fail;refine(hF _).mono ?_;rintro e wM ⟨rfl,rfl⟩;go_wp2_with fail;refine(hI _ (hv.below (ag _ _))).mono ?_;rintro e w1 ⟨rfl,hb1⟩;have⟨⟨r0,r1⟩,fz,t0,aj⟩:=br w1 hb1;clear br hb1;go_wp2_with fail;refine(hS _ (hv.below aj)).mono ?_;rintro e w2 ⟨v2,rfl,ap,ac⟩;obtain⟨a2,c2,rfl⟩:=jic ap;have⟨cU,eE⟩:=Z4 ac;have an:=Zp aj ac;have q0:=(cU _ _ (ZI r0)).trans r0;have q1:=(cU _ _ (ZI r1)).trans r1;have e0:=(eE _ _ (ZI r0)).trans (fz 0);have e1:=(eE _ _ (ZI r1)).trans (fz 1);have u0:=(cU _ _ (ZI t0)).trans t0;clear cU eE ac ap r0 r1 fz t0;go_wp2_with fail;refine(hP _ (hv.below an)).mono ?_;rintro e w3 ⟨rfl,ar⟩;have⟨fw,gE⟩:=Z4 ar;have ax:=Zp an ar;have k0:=(fw _ _ (ZI q0)).trans q0;have k1:=(fw _ _ (ZI q1)).trans q1;have g0:=(gE _ _ (ZI q0)).trans e0;have g1:=(gE _ _ (ZI q1)).trans e1;have⟨s0,s1⟩:=ja4 (v0:=J p1) (v1:=J p2) k0 k1;clear fw gE ar q0 q1 e0 e1 u0;go_wp2;exact ZM (v:=.agg #[J p1,J p2]) (by simp[results,Tryz.results164,go_sem,s0,s1]) rfl ⟨rfl,(ax.setCell (vQs _) _).setCell (vQs _) _⟩
 .obtain rfl:=E2 hL
  obtain⟨p1,p2⟩:=R;have az:((L.length:Int)==0)=false:=beq_eq_false_iff_ne.mpr Q;unfold xW at hD ⊢;clear E1 E2 hP;unfold C;go_in;go_wp2_with fail;refine(hM _).mono ?_;rintro e wM ⟨rfl,rfl⟩;go_wp2_with fail;refine(hG _).mono ?_;rintro e wM ⟨rfl,rfl⟩;go_wp2_with fail;refine(hF _).mono ?_;rintro e wM ⟨rfl,rfl⟩;go_wp2_with fail;refine(hI _ (hv.below (ag _ _))).mono ?_;rintro e w1 ⟨rfl,hb1⟩;have⟨⟨r0,r1⟩,fz,t0,aj⟩:=br w1 hb1;clear br hb1;go_wp2_with fail;refine(hS _ (hv.below aj)).mono ?_;rintro e w2 ⟨v2,rfl,ap,ac⟩;have sd:=hD _ _ _ Q Q ap;obtain⟨a2,c2,rfl⟩:=jic ap;have⟨cU,eE⟩:=Z4 ac;have an:=Zp aj ac;have q0:=(cU _ _ (ZI r0)).trans r0;have q1:=(cU _ _ (ZI r1)).trans r1;have e0:=(eE _ _ (ZI r0)).trans (fz 0);have e1:=(eE _ _ (ZI r1)).trans (fz 1);clear cU eE ac ap r0 r1 fz t0 hD;go_wp2_with fail;refine sd.mono ?_;rintro e w3 ⟨rfl,ar⟩;have⟨fw,gE⟩:=Z4 ar;have ax:=Zp an ar;have k0:=(fw _ _ (ZI q0)).trans q0;have k1:=(fw _ _ (ZI q1)).trans q1;have g0:=(gE _ _ (ZI q0)).trans e0;have g1:=(gE _ _ (ZI q1)).trans e1;have⟨s0,s1⟩:=ja4 (v0:=J p1) (v1:=J p2) k0 k1;clear fw gE ar q0 q1 e0 e1;go_wp2;exact ZM (v:=.agg #[J p1,J p2]) (by simp[results,Tryz.results164,go_sem,s0,s1]) rfl ⟨rfl,(ax.setCell (vQs _) _).setCell (vQs _) _⟩
theorem jw3(l:List ZK)(n:Int)(hT:Js l):jik n (AA l 1):=by
 intro t ht;obtain⟨j,hj,rfl⟩:=jnp ht;obtain rfl:j=0:=Q;have:=hT.len;unfold vau;rw[jdg hT Q];unfold jh3;simp only[Nat.zero_sub];cases h:decide ((l[0]?.getD jmw).at_+(l[0]?.getD jmw).Zq<=n)
 .rfl
 .rw[Bool.true_and]
  exact dfe (by have:=Nb h;omega)
theorem jh6(l:List ZK)(v:Value)(n g f:Int)(w:World)(hv:Zy w v l)(hR:Js l)(n1: -62135596800<=n)(n2:n<=253402300799)(g1:0<=g)(g2:g<=2)(_f1:0<=f)(_f2:f<=2):
  C 111 #[v,J n,J g,J f] w λe w'=>e=V (xW (vbg l n g f))/\Bw w w':=by
 obtain⟨a,cap,rfl,hA⟩:=hv;have hv:Zy w (.agg #[U a l.length cap]) l:=⟨a,cap,rfl,hA⟩;have ag:=λo o2=>(ZA w o).alloc M o2
 have br:∀w1,Below ((w.alloc (G #[U a l.length cap] 158)).alloc (G #[J 0,J 0] 163)).heap.size ((w.alloc (G #[U a l.length cap] 158)).alloc (G #[J 0,J 0] 163)) w1->
   (w1.cell? (O (w.heap.size+1) 0)=some (J 0)/\w1.cell? (O (w.heap.size+1) 1)=some (J 0))/\(∀i,w1.frozen? (O (w.heap.size+1) i)=false)/\w1.cell? (O w.heap.size 0)=some (U a l.length cap)/\Bw w w1:=λw1 hb1=>by
  have⟨aX,dg⟩:=Z4 hb1;exact⟨⟨(aX _ _ M).trans RQ,(aX _ _ M).trans RQ⟩,λi=>(dg _ _ M).trans RQ,(aX _ _ RO).trans RQ,(ag _ _).trans (hb1.mono RO)⟩
 have au:=hR.len;have i7:=jwk l n;have hS:=λw (h:Zy w (.agg #[U a l.length cap]) l)=>jg8 l _ n hR n1 n2 w h
 have E1:=@vf0 l n g f;have E2:=@vfZ l n g f;have F1:=λh1 h2=>@ve8 (jdn l n) f h1 h2
 have F2:=λh2 x hx=>@ve7 (jdn l n) f h2 x hx
 have F3:=λh1 h2 x hx=>@ve6 (jdn l n) f h1 h2 x hx
 generalize jdn l n=L at *;generalize jhl L f=Pf at *;generalize vbg l n g f=R at *;by_cases hL:L.length=0
 case neg=>
  obtain rfl:=E2 hL;obtain⟨m,hm⟩:∃m,L.length=m+1:=⟨L.length-1,Q⟩;obtain⟨x,hx⟩:∃x,L[0]? =some x:=⟨_,ZV Q⟩;obtain⟨y,hy⟩:∃y,L[m]? =some y:=⟨_,ZV Q⟩;clear E1 E2 hL;by_cases h1:0<m
  .by_cases h2:f=0
   .obtain rfl:=F1 Q h2
    subst h2;clear F1 F2 F3;unfold C;go_in;go_wp2_with fail;refine(hS _ (hv.below (ag _ _))).mono ?_;rintro e w2 ⟨v2,rfl,ap,ac⟩;obtain⟨g2,c2,rfl,_,_,_⟩:=jfp hm ap;have⟨⟨q0,q1⟩,fz,t0,an⟩:=br w2 ac;have e0:=fz 0;have e1:=fz 1;clear fz br ac ap;have⟨s0,s1⟩:=ja4 (v0:=J (0)) (v1:=J 9) q0 q1;go_wp2;exact ZM (v:=xW (0,9)) (by simp[results,Tryz.results111,go_sem,xW,s0,s1]) rfl ⟨rfl,(an.setCell (vQs _) _).setCell (vQs _) _⟩
   .by_cases h3:f=2
    .obtain rfl:=F2 h3 y (by rw[hm];exact hy)
     subst h3;clear F1 F2 F3;unfold C;go_in;go_wp2_with fail;refine(hS _ (hv.below (ag _ _))).mono ?_;rintro e w2 ⟨v2,rfl,ap,ac⟩;obtain⟨g2,c2,rfl,_,_,fx⟩:=jfp hm ap;have cy:=fx m y hy;clear fx;have⟨⟨q0,q1⟩,fz,t0,an⟩:=br w2 ac;have e0:=fz 0;have e1:=fz 1;clear fz br ac ap;have⟨s0,s1⟩:=ja4 (v0:=J (y)) (v1:=J 0) q0 q1;go_wp2;exact ZM (v:=xW (y,0)) (by simp[results,Tryz.results111,go_sem,xW,s0,s1]) rfl ⟨rfl,(an.setCell (vQs _) _).setCell (vQs _) _⟩
    .obtain rfl:=F3 Q h3 x hx
     have e2:(f==0)=false:=by simp[h2]
     have e3:(f==2)=false:=by simp[h3]
     clear F1 F2 F3;unfold C;go_in;go_wp2_with fail;refine(hS _ (hv.below (ag _ _))).mono ?_;rintro e w2 ⟨v2,rfl,ap,ac⟩;obtain⟨g2,c2,rfl,_,_,fx⟩:=jfp hm ap;have cx:=fx 0 x hx;clear fx;have⟨⟨q0,q1⟩,fz,t0,an⟩:=br w2 ac;have e0:=fz 0;have e1:=fz 1;clear fz br ac ap;have⟨s0,s1⟩:=ja4 (v0:=J (x)) (v1:=J 0) q0 q1;go_wp2;exact ZM (v:=xW (x,0)) (by simp[results,Tryz.results111,go_sem,xW,s0,s1]) rfl ⟨rfl,(an.setCell (vQs _) _).setCell (vQs _) _⟩
  .obtain rfl:m=0:=Q
   have hF:R=(x,0):=by
    by_cases h3:f=2
    .exact F2 h3 x (by rw[hm];exact hx)
    .exact F3 Q h3 x hx
   subst hF;clear F1 F2 F3 hy;unfold C;go_in;go_wp2_with fail;refine(hS _ (hv.below (ag _ _))).mono ?_;rintro e w2 ⟨v2,rfl,ap,ac⟩;obtain⟨g2,c2,rfl,_,_,fx⟩:=jfp hm ap;have cx:=fx 0 x hx;clear fx;have⟨⟨q0,q1⟩,fz,t0,an⟩:=br w2 ac;have e0:=fz 0;have e1:=fz 1;clear fz br ac ap;have⟨s0,s1⟩:=ja4 (v0:=J (x)) (v1:=J 0) q0 q1;go_wp2;exact ZM (v:=xW (x,0)) (by simp[results,Tryz.results111,go_sem,xW,s0,s1]) rfl ⟨rfl,(an.setCell (vQs _) _).setCell (vQs _) _⟩
 case pos=>
  have E:=E1 hL;clear E1 E2 F1 F2 F3;have HS:Hid (∀k,k<l.length->jik n (AA l k)->vau n (Re l k)=true->R=vbA (some (Re l k)) n g):=λk hk h0 h1=>by rw[E,jow hk h0 h1]
  have HN:Hid (jik n (AA l l.length)->R=(0,4)):=λh0=>by rw[E,jjl h0];rfl
  clear E;rw[hL]at hS;have aT:∀(wr:World),Bw w wr->∀(k:Nat) (x:ZK),l[k]? =some x->∃b o,a=some (O b o)/\wr.cell? (O b (o+k*4))=some (J x.at_)/\wr.cell? (O b (o+k*4+1))=some (J x.Zq):=λwr hB k x hx=>by
   have⟨b',o',he,hc⟩:=(hA.below hB).at (i:=k) (r:=x.cs) (by rw[Z8,hx];rfl);exact⟨b',o',he,hc 0 _ rfl,hc 1 _ rfl⟩
  unfold C;go_in;go_wp2_with fail;refine(hS _ (hv.below (ag _ _))).mono ?_;rintro e w2 ⟨v2,rfl,ap,ac⟩;obtain⟨a2,c2,rfl⟩:=jic ap;have⟨⟨q0,q1⟩,fz,t0,an⟩:=br w2 ac;have e0:=fz 0;have e1:=fz 1;clear fz br ac ap;go_wp2;go_loopw [10] (λs wr=>∃k:Nat,1<=k/\k<=l.length/\s=J k/\jik n (AA l k)/\wr=w2) (λs _=>l.length-(intOf s).toNat)
  .exact⟨1,Q,Q,rfl,jw3 l n hR,rfl⟩
  ·
   obtain⟨k,Q8,hk,rfl,lF,hw⟩:=hrel;have hw:=hw.symm;subst hw;by_cases hlt:k<l.length
   case neg=>
    obtain rfl:k=l.length:=Q;obtain rfl:=HN.out lF;have⟨s0,s1⟩:=ja4 (v0:=J (0)) (v1:=J 4) q0 q1;go_wp2;exact ZM (v:=xW (0,4)) (by simp[results,Tryz.results111,go_sem,xW,s0,s1]) rfl ⟨rfl,(an.setCell (vQs _) _).setCell (vQs _) _⟩
   case pos=>
    obtain⟨j,rfl⟩:∃j,k=j+1:=⟨k-1,Q⟩;obtain⟨x,hx⟩:∃x,l[j+1]? =some x:=⟨_,ZV hlt⟩;obtain⟨p,hp⟩:∃x,l[j]? =some x:=⟨_,ZV Q⟩;have⟨b,o,ha,c0,c1⟩:=aT _ an (j+1) x hx;have⟨b',o',jF,d0,d1⟩:=aT _ an j p hp;rw[ha]at jF;injection jF with jF
    injection jF with u1 u2
    subst u1 u2 ha;have⟨z1,z2⟩:=jax (jnl hR (ui hx));have⟨z3,z4⟩:=jax (jnl hR (ui hp));have z5:=jpe hR hx;have z6:=hR.top _ x hx;have HV:Hid ((Re l (j+1)).1.first=x.at_/\(Re l (j+1)).1.ahead=p.Zq/\(Re l (j+1)).1.own=x.Zq):=by
     simp only[Hid];rw[jdg hR hlt];unfold jh3;rw[Nat.add_sub_cancel,hx,hp];exact⟨rfl,rfl,rfl⟩
    have lO:Hid (vau n (Re l (j+1))=false->jik n (AA l (j+1+1))):=λh=>by rw[vbD];exact jf7 lF h
    have HG:Hid (vau n (Re l (j+1))=true->R=vbA (some (Re l (j+1))) n g):=λh=>HS.out (j+1) hlt lF h
    clear hx hp aT HS HN d0;by_cases h1:x.at_+p.Zq<=n
    case neg=>
     have gK:=lO.out (vd6 (by rw[HV.out.1,HV.out.2.1];exact h1));clear lO HG HV;go_wp2;go_roundw
     .exact⟨j+1+1,Q,Q,RP,gK,trivial⟩
     .simp[intOf];omega
    case pos=>
     by_cases h2:n<x.at_+x.Zq
     case neg=>
      have gK:=lO.out (vfa (by rw[HV.out.1,HV.out.2.2];exact h2));clear lO HG HV;go_wp2;go_roundw
      .exact⟨j+1+1,Q,Q,RP,gK,trivial⟩
      .simp[intOf];omega
     case pos=>
      have E:=HG.out (vfb (by rw[HV.out.1,HV.out.2.1];exact h1) (by rw[HV.out.1,HV.out.2.2];exact h2));have R0:=j1b (Re l (j+1)) n;have R1:=j1a (Re l (j+1)) n;have R2:=λh0 h1=>@vfc (Re l (j+1)) n g h0 h1
      rw[HV.out.2.1]at R1;rw[HV.out.2.2]at R2;clear lO HG HV lF;by_cases h0:g=0
      .subst h0
       rw[R0]at E;subst E;clear R0 R1 R2;have⟨s0,s1⟩:=ja4 (v0:=J (0)) (v1:=J 8) q0 q1;go_wp2;exact ZM (v:=xW (0,8)) (by simp[results,Tryz.results111,go_sem,xW,s0,s1]) rfl ⟨rfl,(an.setCell (vQs _) _).setCell (vQs _) _⟩
      .have e2:(g==0)=false:=by simp[h0]
       by_cases h3:g=2
       .subst h3
        rw[R2 Q Q]at E;have mm:=λw=>jfn (n-x.Zq) w
        clear R0 R1 R2;cases hb:ZX (n-x.Zq) (-62135596800) 253402300799
        .rw[jpm hb]at E
         subst E;rw[hb]at mm;clear hb;have⟨s0,s1⟩:=ja4 (v0:=J 0) (v1:=J 4) q0 q1;go_wp2_with fail;refine(mm _).mono ?_;rintro e w' ⟨rfl,rfl⟩;go_wp2;exact ZM (v:=xW (0,4)) (by simp[results,Tryz.results111,go_sem,xW,s0,s1]) rfl ⟨rfl,(an.setCell (vQs _) _).setCell (vQs _) _⟩
        .rw[jpl hb]at E
         subst E;rw[hb]at mm;clear hb;have⟨s0,s1⟩:=ja4 (v0:=J (n-x.Zq)) (v1:=J 0) q0 q1;go_wp2_with fail;refine(mm _).mono ?_;rintro e w' ⟨rfl,rfl⟩;go_wp2;exact ZM (v:=xW (n-x.Zq,0)) (by simp[results,Tryz.results111,go_sem,xW,s0,s1]) rfl ⟨rfl,(an.setCell (vQs _) _).setCell (vQs _) _⟩
       .obtain rfl:g=1:=Q
        rw[R1]at E;have mm:=λw=>jfn (n-p.Zq) w
        clear R0 R1 R2;cases hb:ZX (n-p.Zq) (-62135596800) 253402300799
        .rw[jpm hb]at E
         subst E;rw[hb]at mm;clear hb;have⟨s0,s1⟩:=ja4 (v0:=J 0) (v1:=J 4) q0 q1;go_wp2_with fail;refine(mm _).mono ?_;rintro e w' ⟨rfl,rfl⟩;go_wp2;exact ZM (v:=xW (0,4)) (by simp[results,Tryz.results111,go_sem,xW,s0,s1]) rfl ⟨rfl,(an.setCell (vQs _) _).setCell (vQs _) _⟩
        .rw[jpl hb]at E
         subst E;rw[hb]at mm;clear hb;have⟨s0,s1⟩:=ja4 (v0:=J (n-p.Zq)) (v1:=J 0) q0 q1;go_wp2_with fail;refine(mm _).mono ?_;rintro e w' ⟨rfl,rfl⟩;go_wp2;exact ZM (v:=xW (n-p.Zq,0)) (by simp[results,Tryz.results111,go_sem,xW,s0,s1]) rfl ⟨rfl,(an.setCell (vQs _) _).setCell (vQs _) _⟩
