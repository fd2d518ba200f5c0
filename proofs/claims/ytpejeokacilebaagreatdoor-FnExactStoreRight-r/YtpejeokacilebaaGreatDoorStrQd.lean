import Derived.Test.YtpejeokacilebaaGreatDoorStrPd
set_option maxRecDepth 100000
set_option maxHeartbeats 0
set_option linter.unusedSimpArgs false
open Go.RowKit
namespace Go.Proofs.YtpejeokacilebaaGreatDoor
section
open Go.RowKit Go.Shelf
attribute [local go_sem] Oper.semAt_some
def gapB(n:Int)(s:StrK):Bool:=decide (s.1.first+s.1.ahead<=n)&&decide (n<s.1.first+s.1.own)
theorem gapB_t{n:Int}{s:StrK}(h1:s.1.first+s.1.ahead<=n)(h2:n<s.1.first+s.1.own):gapB n s=true:=by simp[gapB,h1,h2]
theorem gapB_f1{n:Int}{s:StrK}(h1:¬s.1.first+s.1.ahead<=n):gapB n s=false:=by simp[gapB,h1]
theorem gapB_f2{n:Int}{s:StrK}(h2:¬n<s.1.first+s.1.own):gapB n s=false:=by simp[gapB,h2]
def gapD(l:List TurnD)(n:Int):Option StrK:=(jat l l.length).find? (gapB n)
def gapS:Option StrK->StrD
 |some s=>s.1
 |none=>⟨0,0,0,0⟩
theorem jso(l:List TurnD)(k:Nat):∀d,∃bs,jat l (k+d)=jat l k++bs:=by
 intro d
 induction d with
 |zero=>exact⟨[],by simp⟩
 |succ d ih=>
  obtain⟨bs,h⟩:=ih
  exact⟨bs++[strK l (k+d)],by rw[<- Nat.add_assoc,uptoS_succ,h,List.append_assoc]⟩
theorem jnp{l:List TurnD}{k:Nat}{s:StrK}(h:s∈jat l k):∃j,j<k/\s=strK l j:=by
 unfold jat at h
 rw[List.mem_map]at h
 obtain⟨j,hj,rfl⟩:=h
 exact⟨j,List.mem_range.mp hj,rfl⟩
theorem jow{l:List TurnD}{n:Int}{k:Nat}(hk:k<l.length)(h0:∀t∈jat l k,gapB n t=false)(h1:gapB n (strK l k)=true):gapD l n=some (strK l k):=by
 unfold gapD
 rw[List.find?_eq_some_iff_append]
 obtain⟨bs,hb⟩:=jso l (k+1) (l.length-(k+1))
 rw[show k+1+(l.length-(k+1))=l.length by omega,uptoS_succ,List.append_assoc]at hb
 exact⟨h1,jat l k,bs,hb,fun a ha=>by rw[h0 a ha];rfl⟩
theorem jjl{l:List TurnD}{n:Int}(h0:∀t∈jat l l.length,gapB n t=false):gapD l n=none:=by
 unfold gapD
 rw[List.find?_eq_none]
 intro x hx
 rw[h0 x hx]
 simp
theorem jh2{l:List TurnD}{k:Nat}{x:TurnD}(h:l[k]? =some x):(jh3 l k).first=x.at_:=by unfold jh3;rw[h];rfl
theorem jz8{l:List TurnD}(hT:Js l){n:Int}{k:Nat}(hk:k<l.length)(h0:∀t∈jat l k,gapB n t=false)(h1:n<(strK l k).1.first-100000):gapD l n=none:=by
 refine jjl fun t ht=>?_
 obtain⟨j,hj,rfl⟩:=jnp ht
 by_cases Cc:j<k
 ·exact h0 _ (by unfold jat;rw[List.mem_map];exact⟨j,List.mem_range.mpr Cc,rfl⟩)
 ·have ok:=(strK l j).2
  unfold StrD.ok at ok
  simp only[bat]at ok
  have ha:=jax ok.2.2.1
  refine gapB_f1 ?_
  obtain⟨x,hx⟩:=qgg hk
  obtain⟨y,hy⟩:=qgg hj
  have hu:=jpk hT.up (show k<=j by omega) hx hy
  rw[jdg hT hk,jh2 hx]at h1
  rw[jdg hT hj]at ha ⊢
  rw[jh2 hy]
  omega
structure StrIn(W:World)(B:Nat)(s:StrD):Prop where
 c0:W.cell? (ad B 0)=some (iv s.first)
 c1:W.cell? (ad B 1)=some (iv s.last)
 c2:W.cell? (ad B 2)=some (iv s.ahead)
 c3:W.cell? (ad B 3)=some (iv s.own)
theorem StrIn.kept{W W':World}{B:Nat}{s:StrD}{row:Option Nat}(h:StrIn W B s)(hg:W.grownBy W' row)(hr:∀r,row=some r->∃o:Obj,W.heap[r]? =some o/\o.isCells=false):StrIn W' B s:=
 ⟨cell_kept h.c0 hg hr,cell_kept h.c1 hg hr,cell_kept h.c2 hg hr,cell_kept h.c3 hg hr⟩
theorem jej{W:World}{B:Nat}{x0 x1 x2 x3:Int}(h:W.heap[B]? =some (.cells #[iv x0,iv x1,iv x2,iv x3] 272 (0,0))):StrIn W B ⟨x0,x1,x2,x3⟩/\∀i,W.frozen? (ad B i)=false:=
 ⟨⟨by simp[World.cell?,h],by simp[World.cell?,h],by simp[World.cell?,h],by simp[World.cell?,h]⟩,fun i=>by simp[World.frozen?,h]⟩
theorem jwx{W W':World}{row:Option Nat}{B:Nat}{cs:Array Value}{t:TypeId}(h:W.heap[B]? =some (.cells cs t (0,0)))(hg:W.grownBy W' row)(hr:∀r,row=some r->∃o:Obj,W.heap[r]? =some o/\o.isCells=false):W'.heap[B]? =some (.cells cs t (0,0)):=by
 refine(hg.block B (Array.getElem?_eq_some_iff.1 h).1 (fun e=>?_)).trans h
 obtain⟨o,ho,hc⟩:=hr B e.symm
 rw[h]at ho
 cases ho
 cases hc
theorem jly{W:World}{B:Nat}{x y:StrD}(h:StrIn W B x):StrIn ((((W.setCell (ad B 0) (iv y.first)).setCell (ad B 1) (iv y.last)).setCell (ad B 2) (iv y.ahead)).setCell (ad B 3) (iv y.own)) B y:=by
 obtain⟨s0,s1,s2,s3⟩:=jyr (v0:=iv y.first) (v1:=iv y.last) (v2:=iv y.ahead) (v3:=iv y.own) h.c0 h.c1 h.c2 h.c3
 exact⟨s0,s1,s2,s3⟩
theorem jel(W:World)(B:Nat)(v0 v1 v2 v3:Value):KeepsOthers W ((((W.setCell (ad B 0) v0).setCell (ad B 1) v1).setCell (ad B 2) v2).setCell (ad B 3) v3):=
 (((KeepsOthers.setCell W _ v0).trans (KeepsOthers.setCell _ _ v1)).trans (KeepsOthers.setCell _ _ v2)).trans (KeepsOthers.setCell _ _ v3)
theorem jeq{n₀:Nat}{A W:World}(h:Below n₀ A W)(B:Nat)(hB:n₀<=B)(v0 v1 v2 v3:Value):Below n₀ A ((((W.setCell (ad B 0) v0).setCell (ad B 1) v1).setCell (ad B 2) v2).setCell (ad B 3) v3):=
 (((h.setCell (p:=(ad B 0)) hB v0).setCell (p:=(ad B 1)) hB v1).setCell (p:=(ad B 2)) hB v2).setCell (p:=(ad B 3)) hB v3
def jjk(w wA:World)(s:StrD)(t:Bool)(W:World):Prop:=StrIn W (w.heap.size+1+1+1) s/\W.cell? (ad (w.heap.size+1+1+1+1) 0)=some (.bool t)/\Below (w.heap.size+1+1+1) wA W
theorem jjj(w wA:World)(s:StrD)(t:Bool)(hs:wA.heap.size=w.heap.size+1+1+1)(B:Nat)(hB:w.heap.size+1+1+1<=B){β:Type}:OwnFrom B (fun(_:β) W=>jjk w wA s t W):=fun x X Y row hx hg hr=>
 ⟨hx.1.kept hg (fun r e=>(hr r e).2),cell_kept hx.2.1 hg (fun r e=>(hr r e).2),ownFrom_below (β:=β) (by omega) hB x X Y row hx.2.2 hg hr⟩
def jik(m:Int)(bK:List StrK):Prop:=∀t∈bK,gapB m t=false
theorem jf7{m:Int}{bK:List StrK}{s:StrK}(h:jik m bK)(hs:gapB m s=false):jik m (bK++[s]):=fun t ht=>(List.mem_append.1 ht).elim (h t) (fun e=>by rw[List.mem_singleton]at e;subst e;exact hs)
def jw5(m:Int)(w wA:World)(bK:List StrK)(W:World):Prop:=∃vQ s,bK=vQ++[s]/\jik m vQ/\((m<s.1.first-100000/\jjk w wA ⟨0,0,0,0⟩ false W)\/(gapB m s=true/\jjk w wA s.1 true W))
theorem jz7{m:Int}{w wA W:World}{bK:List StrK}{s:StrK}(h:jik m bK)(h1:m<s.1.first-100000)(h2:jjk w wA ⟨0,0,0,0⟩ false W):jw5 m w wA (bK++[s]) W:=⟨bK,s,rfl,h,.inl ⟨h1,h2⟩⟩
theorem jz6{m:Int}{w wA W:World}{bK:List StrK}{s:StrK}(h:jik m bK)(h1:gapB m s=true)(h2:jjk w wA s.1 true W):jw5 m w wA (bK++[s]) W:=⟨bK,s,rfl,h,.inr ⟨h1,h2⟩⟩
theorem jtt(l:List TurnD)(v:Value)(m:Int)(hT:Js l)(m1: -62135596800<=m)(m2:m<=253402300799)(w:World)(hv:Zy w v l):
  Cl 212 #[v,iv m] w fun e W'=>e=.returned (.tuple #[(gapS (gapD l m)).v,.bool (gapD l m).isSome])/\Bw w W':=by
 refine(callsIn_wide (n:=3)).1 ?_
 have h1:1<=3:=by omega
 have au:=hT.len
 obtain⟨a,cap,rfl,hA⟩:=hv
 obtain⟨f,hf⟩:∃x,l[0]? =some x:=⟨_,lgg (by omega)⟩
 obtain⟨b,o,rfl,hd⟩:=hA.at (i:=0) (r:=f.cs) (by rw[lgm,hf];rfl)
 have mt:b<w.heap.size:=qbl (hd 0 _ rfl)
 clear hd hf
 have HS:=fun k (hk:k<l.length) (h0:∀t∈jat l k,gapB m t=false) (h1:gapB m (strK l k)=true)=>jow hk h0 h1
 have HN:=fun(h0:∀t∈jat l l.length,gapB m t=false)=>jjl h0
 have HC:=fun k (hk:k<l.length) (h0:∀t∈jat l k,gapB m t=false) (h1:m<(strK l k).1.first-100000)=>jz8 hT hk h0 h1
 generalize gapD l m=G at *
 refine callsIn_of_wp_marks Tryz.func212 rfl trivial ?_ rfl
 simp only[Tryz.ntmps212,List.size_toArray,List.length_cons,List.length_nil,Nat.reduceAdd,Nat.reduceSub,Array.replicate_succ,Array.replicate_zero,List.push_toArray,List.append_toArray,List.nil_append,List.cons_append]
 gi_wp2
 refine wpIn_wide.2 (wp_scope_straight ((wpIn_wide (n:=3)).1 ?_))
 gi_wp2
 apply wpIn_label
 gi_wp2_with (refine⟨trivial,?_⟩;gi_at_call 211;refine(jgm Fence.wide 2 trivial rfl _ _ _ _).mono ?_;rintro e w' ⟨rfl,rfl⟩)
 obtain⟨wA,cK⟩:=qeb ((((w.alloc (.cells #[.slice (some (ad b o)) l.length cap] 138)).alloc (.cells #[iv m] 2)).alloc (.cells #[iv 0,iv 0,iv 0,iv 0] 272)))
 have ji:wA.heap.size=w.heap.size+1+1+1:=by rw[<- cK];simp
 have eX:Bw w wA:=by rw[<- cK];exact((qal w _).alloc (by simp) _).alloc (by simp;omega) _
 have cM:wA.cell? (ad (w.heap.size+1) 0)=some (iv m):=by rw[<- cK];simp[go_sem]
 have hR:wA.heap[w.heap.size+1+1]? =some (.cells #[iv 0,iv 0,iv 0,iv 0] 272 (0,0)):=by
  rw[<- cK]
  have:=World.alloc_heap_new ((w.alloc (.cells #[.slice (some (ad b o)) l.length cap] 138)).alloc (.cells #[iv m] 2)) (.cells #[iv 0,iv 0,iv 0,iv 0] 272)
  rw[World.size_alloc,World.size_alloc]at this
  exact this
 rw[cK]
 obtain⟨wF,qP⟩:=qeb (wA.alloc (.cells #[iv 0,iv 0,iv 0,iv 0] 272))
 have hF:wF.heap[w.heap.size+1+1+1]? =some (.cells #[iv 0,iv 0,iv 0,iv 0] 272 (0,0)):=by
  rw[<- qP]
  have:=World.alloc_heap_new wA (.cells #[iv 0,iv 0,iv 0,iv 0] 272)
  rw[ji]at this
  exact this
 have Gj:wF.heap.size=w.heap.size+1+1+1+1:=by rw[<- qP];simp;omega
 have J8:Below (w.heap.size+1+1+1) wA wF:=by rw[<- qP];exact(brf _ wA).alloc (by omega) _
 rw[qP]
 have bH:=Boxed.new wF 4 (.bool false)
 have bN:=Boxed.new (wF.alloc (.cells #[.bool false] 4)) 138 (.slice (some (ad b o)) l.length cap)
 rw[World.size_alloc,Gj]at bN
 rw[Gj]at bH
 have ag:Below (w.heap.size+1+1+1) wA ((wF.alloc (.cells #[.bool false] 4)).alloc (.cells #[.slice (some (ad b o)) l.length cap] 138)):=(J8.alloc (by omega) _).alloc (by simp;omega) _
 have ew:((wF.alloc (.cells #[.bool false] 4)).alloc (.cells #[.slice (some (ad b o)) l.length cap] 138)).heap[w.heap.size+1+1+1]? =some (.cells #[iv 0,iv 0,iv 0,iv 0] 272 (0,0)):=
  (Below.heap_alloc _ _ _ (by simp;omega)).trans ((Below.heap_alloc _ _ _ (by omega)).trans hF)
 have eK:=hA.below (eX.trans (ag.mono (by omega)))
 refine wpIn_rangeFunc_ownH rfl h1 (gf:=236) (lb:=#[.pointer (some (ad (w.heap.size+1+1+1+1+1) 0))]) rfl trivial (enters_of Tryz.func236 (by kernel_rfl) rfl)
  (jm2 Fence.wide 2 trivial rfl (by omega) (w.heap.size+1+1+1+1+1) (w.heap.size+1+1+1) b o cap l hT (by omega) _ (by simp;omega) bN eK) j30 (j31 (by simp;omega)) (brf _ _) (fun _=>rfl)
  (fun bK W=>W.heap[w.heap.size+1+1+1]? =some (.cells #[iv 0,iv 0,iv 0,iv 0] 272 (0,0))/\Boxed W (w.heap.size+1+1+1+1) 4 (.bool false)/\Below (w.heap.size+1+1+1) wA W/\jik m bK)
  (fun c bK W=>c=.exit 0/\jw5 m w wA bK W)
  (fun s X Y row hs hg hr=>⟨jwx hs.1 hg (fun r e=>(hr r e).2),boxed_own _ _ (fun(_:Unit)=>.bool false) () X Y row hs.2.1 hg (fun r e=>(hr r e).2),ownFrom_below (β:=Unit) (by omega) (by simp;omega) () X Y row hs.2.2.1 hg hr,hs.2.2.2⟩)
  (fun c s X Y row hs hg hr=>by
   obtain⟨hc,vQ,t,e1,e2,e3⟩:=hs
   refine⟨hc,vQ,t,e1,e2,?_⟩
   rcases e3 with⟨e3,e4⟩|⟨e3,e4⟩
   ·exact .inl ⟨e3,jjj w wA _ _ ji _ (by simp;omega) (β:=Unit) () X Y row e4 hg hr⟩
   ·exact .inr ⟨e3,jjj w wA _ _ ji _ (by simp;omega) (β:=Unit) () X Y row e4 hg hr⟩)
  ⟨ew,bH.alloc _,ag,fun t ht=>by simp at ht⟩
  (fun x a' W=>∃Bx,W.heap[Bx]? =some (.cells #[iv x.1.first,iv x.1.last,iv x.1.ahead,iv x.1.own] 272 (0,0))/\w.heap.size+1+1+1+1<Bx/\a'={ tmps:=#[.agg #[.slice (some (ad b o)) l.length cap],iv m,.pointer (some (ad w.heap.size 0)),.pointer (some (ad (w.heap.size+1) 0)),.pointer (some (ad (w.heap.size+1+1) 0)),.bool false,.pointer (some (ad (w.heap.size+1+1+1) 0)),.pointer (some (ad (w.heap.size+1+1+1+1) 0)),.pointer (some (ad Bx 0)),.agg #[.slice (some (ad b o)) l.length cap],.func (.func 236) #[] #[.pointer (some (ad (w.heap.size+1+1+1+1+1) 0))],x.1.v,undef,undef,undef,undef,undef,undef,undef,undef,undef,undef,undef,undef,undef,undef,undef,undef,undef,undef,undef,undef,undef,undef,undef,undef,undef,undef],defers:=[] })
  (fun x a' _ X Y row hs hg hr=>by
   obtain⟨Bx,k1,k2,k3⟩:=hs
   exact⟨Bx,jwx k1 hg (fun r e=>(hr r e).2),k2,k3⟩)
  ?assign ?body ?done ?stop
 case assign=>
  rintro q bK ⟨⟨x0,x1,x2,x3⟩,hx⟩ W K ⟨hH,hv,hB,hp⟩ hK
  simp only[StrD.v]at *
  have hlt:=hv.lt
  gi_wp2
  exact hK _ _ ((KeepsOthers.alloc _ _).from _) ⟨(brf _ W).alloc (by have:=hB.size;omega) _,Zv.alloc _ _⟩ ⟨(Below.heap_alloc _ _ _ (by omega)).trans hH,hv.alloc _,hB.alloc (by have:=hB.size;omega) _,hp⟩ ⟨W.heap.size,World.alloc_heap_new W _,by omega,rfl⟩
 case body=>
  rintro q bK ⟨⟨x0,x1,x2,x3⟩,hx⟩ a' W hq ⟨r,hr⟩ ⟨hH,hv,hB,hp⟩ ⟨Bx,cR,ja,rfl⟩ hlt
  have gt:=@gapB_t m ⟨⟨x0,x1,x2,x3⟩,hx⟩
  have tJ:=@gapB_f1 m ⟨⟨x0,x1,x2,x3⟩,hx⟩
  have tK:=@gapB_f2 m ⟨⟨x0,x1,x2,x3⟩,hx⟩
  have hc:=hv.cell
  have OT:=hv.frozen
  have dI:=hB.size
  have Is:W.cell? (ad (w.heap.size+1) 0)=some (iv m):=(hB.cell (p:=(ad (w.heap.size+1) 0)) (show w.heap.size+1<w.heap.size+1+1+1 by omega)).trans cM
  obtain⟨⟨e0,e1,e2,e3⟩,_⟩:=jej cR
  obtain⟨uf,ug⟩:=jej hH
  obtain⟨f0,f1,f2,f3⟩:=uf
  have OI:=ug 0
  have OJ:=ug 1
  have OK:=ug 2
  have OL:=ug 3
  obtain⟨i1,i2,i3,i4⟩:(-62135596800<=x0/\x0<=253402300799)/\(-62135596801<=x1/\x1<=253402300799)/\(-100000<=x2/\x2<=100000)/\(-100000<=x3/\x3<=100000):=by
   have fm:=hx
   unfold StrD.ok at fm
   simp only[bat]at fm
   exact⟨jax fm.1,jax fm.2.1,jax fm.2.2.1,jax fm.2.2.2⟩
  obtain⟨Pn,Po⟩:=i1
  obtain⟨Pp,Pq⟩:=i3
  obtain⟨Pr,Ps⟩:=i4
  simp only[StrD.v]at *
  have lr:=jel W (w.heap.size+1+1+1) (iv x0) (iv x1) (iv x2) (iv x3)
  have aR:=jeq hB (w.heap.size+1+1+1) (by omega) (iv x0) (iv x1) (iv x2) (iv x3)
  obtain⟨s0,s1,s2,s3⟩:=jly (x:=⟨0,0,0,0⟩) (y:=⟨x0,x1,x2,x3⟩) ⟨f0,f1,f2,f3⟩
  simp only at s0 s1 s2 s3
  have az:w.heap.size+1+1+1+1≠w.heap.size+1+1+1:=by omega
  clear hq hr ug
  by_cases g0:m<x0-100000
  ·clear gt tJ tK lr aR s0 s1 s2 s3
   gi_wp2
   exact⟨KeepsFrom.refl _ _,rfl,jz7 (s:=⟨⟨x0,x1,x2,x3⟩,hx⟩) hp g0 ⟨⟨f0,f1,f2,f3⟩,hc,hB⟩⟩
  ·by_cases g1:x0+x2<=m
   ·by_cases g2:m<x0+x3
    ·have ht:=gt g1 g2
     clear gt tJ tK
     gi_wp2
     refine⟨(lr.trans (KeepsOthers.setCell _ _ _)).from _,rfl,jz6 hp ht ⟨⟨?_,?_,?_,?_⟩,?_,aR.setCell (p:=(ad (w.heap.size+1+1+1+1) 0)) (show w.heap.size+1+1+1<=w.heap.size+1+1+1+1 by omega) _⟩⟩
     ·rw[wco _ _ _ _ (jc2 (by omega))];exact s0
     ·rw[wco _ _ _ _ (jc2 (by omega))];exact s1
     ·rw[wco _ _ _ _ (jc2 (by omega))];exact s2
     ·rw[wco _ _ _ _ (jc2 (by omega))];exact s3
     ·refine wcs _ _ _ (u:=.bool false) ?_
      rw[wco _ _ _ _ (jc2 (by omega)),wco _ _ _ _ (jc2 (by omega)),wco _ _ _ _ (jc2 (by omega)),wco _ _ _ _ (jc2 (by omega))]
      exact hc
    ·have ht:=tK g2
     clear gt tJ tK lr aR s0 s1 s2 s3
     gi_wp2
     exact⟨KeepsFrom.refl _ _,⟨brf _ _,Zv.refl _⟩,hH,hv,hB,jf7 hp ht⟩
   ·have ht:=tJ g1
    clear gt tJ tK lr aR s0 s1 s2 s3
    gi_wp2
    exact⟨KeepsFrom.refl _ _,⟨brf _ _,Zv.refl _⟩,hH,hv,hB,jf7 hp ht⟩
 case done=>
  rintro D ys W hD rfl ⟨hH,hv,hB,hp⟩ hK
  obtain rfl:=HN hp
  obtain⟨⟨f0,f1,f2,f3⟩,_⟩:=jej hH
  have hc:=hv.cell
  clear HS HN HC
  have uE:=(hB.block (w.heap.size+1+1) (by omega)).trans hR
  obtain⟨⟨r0,r1,r2,r3⟩,fX⟩:=jej uE
  have GN:=fX 0
  have GO:=fX 1
  have GP:=fX 2
  have GQ:=fX 3
  have lr:=jel W (w.heap.size+1+1) (iv 0) (iv 0) (iv 0) (iv 0)
  have aR:=jeq (eX.trans (hB.mono (by omega))) (w.heap.size+1+1) (by omega) (iv 0) (iv 0) (iv 0) (iv 0)
  obtain⟨s0,s1,s2,s3⟩:=jly (x:=⟨0,0,0,0⟩) (y:=⟨0,0,0,0⟩) ⟨r0,r1,r2,r3⟩
  have iO:w.heap.size+1+1+1≠w.heap.size+1+1:=by omega
  have gF:w.heap.size+1+1+1+1≠w.heap.size+1+1:=by omega
  clear fX cK qP
  simp only at r0 r1 r2 r3 s0 s1 s2 s3 f0 f1 f2 f3
  gi_wp2
  refine wpIn_wide.2 ?_
  go_region
  gi_wp2
  have iz:=(lr.trans (KeepsOthers.drew _)).same D _ hK rfl
  obtain⟨WD,ol⟩:=qeb ((((((W.setCell (ad (w.heap.size+1+1) 0) (iv 0)).setCell (ad (w.heap.size+1+1) 1) (iv 0)).setCell (ad (w.heap.size+1+1) 2) (iv 0)).setCell (ad (w.heap.size+1+1) 3) (iv 0)).drew))
  rw[<- cell_drew_own]at s0 s1 s2 s3
  rw[ol]at s0 s1 s2 s3 iz ⊢
  have hP:=grownBy_putObj' WD D (.deferred none)
  have iC:∀r,some D=some r->∃o:Obj,WD.heap[r]? =some o/\o.isCells=false:=fun r e=>by cases e;exact⟨_,iz,rfl⟩
  have q0:=cell_kept (W:=WD) s0 hP iC
  have q1:=cell_kept (W:=WD) s1 hP iC
  have q2:=cell_kept (W:=WD) s2 hP iC
  have q3:=cell_kept (W:=WD) s3 hP iC
  refine⟨by simp,.inl ⟨_,_,rfl,run_takeDeferred iz,?_⟩⟩
  refine⟨.tuple #[.agg #[iv 0,iv 0,iv 0,iv 0],.bool false],?_,rfl,(aR.trans (by rw[<- ol];exact⟨rfl,rfl,rfl,nlr _,fun _ _=>rfl⟩)).trans (belowK_b (w:=w) (nlr _) _ D _ _ (by simp at hD;omega) iz rfl rfl)⟩
  simp[results,Tryz.results212,go_sem,q0,q1,q2,q3]
 case stop=>
  rintro D c bK W hD ⟨k,hk,rfl⟩ ⟨rfl,vQ,s,e1,e2,e3⟩ hK
  obtain⟨k',rfl⟩:∃k',k=k'+1:=by
   cases k with
   |zero=>simp[jat]at e1
   |succ k'=>exact⟨k',rfl⟩
  rw[uptoS_succ]at e1
  obtain⟨rfl,e5⟩:=List.append_inj' e1 rfl
  have e5:strK l k'=s:=by simpa using e5
  rcases e3 with⟨e3,uf,hc,hB⟩|⟨e3,uf,hc,hB⟩
  ·obtain rfl:=HC k' (by omega) e2 (by rw[e5];exact e3)
   obtain⟨f0,f1,f2,f3⟩:=uf
   clear HS HN HC e1 e2 e3 e5
   have uE:=(hB.block (w.heap.size+1+1) (by omega)).trans hR
   obtain⟨⟨r0,r1,r2,r3⟩,fX⟩:=jej uE
   have GN:=fX 0
   have GO:=fX 1
   have GP:=fX 2
   have GQ:=fX 3
   have lr:=jel W (w.heap.size+1+1) (iv 0) (iv 0) (iv 0) (iv 0)
   have aR:=jeq (eX.trans (hB.mono (by omega))) (w.heap.size+1+1) (by omega) (iv 0) (iv 0) (iv 0) (iv 0)
   obtain⟨s0,s1,s2,s3⟩:=jly (x:=⟨0,0,0,0⟩) (y:=⟨0,0,0,0⟩) ⟨r0,r1,r2,r3⟩
   have iO:w.heap.size+1+1+1≠w.heap.size+1+1:=by omega
   have gF:w.heap.size+1+1+1+1≠w.heap.size+1+1:=by omega
   clear fX cK qP
   simp only at r0 r1 r2 r3 s0 s1 s2 s3 f0 f1 f2 f3
   gi_wp2
   refine wpIn_wide.2 ?_
   go_region
   gi_wp2
   have iz:=(lr.trans (KeepsOthers.drew _)).same D _ hK rfl
   obtain⟨WD,ol⟩:=qeb ((((((W.setCell (ad (w.heap.size+1+1) 0) (iv 0)).setCell (ad (w.heap.size+1+1) 1) (iv 0)).setCell (ad (w.heap.size+1+1) 2) (iv 0)).setCell (ad (w.heap.size+1+1) 3) (iv 0)).drew))
   rw[<- cell_drew_own]at s0 s1 s2 s3
   rw[ol]at s0 s1 s2 s3 iz ⊢
   have hP:=grownBy_putObj' WD D (.deferred none)
   have iC:∀r,some D=some r->∃o:Obj,WD.heap[r]? =some o/\o.isCells=false:=fun r e=>by cases e;exact⟨_,iz,rfl⟩
   have q0:=cell_kept (W:=WD) s0 hP iC
   have q1:=cell_kept (W:=WD) s1 hP iC
   have q2:=cell_kept (W:=WD) s2 hP iC
   have q3:=cell_kept (W:=WD) s3 hP iC
   refine⟨by simp,.inl ⟨_,_,rfl,run_takeDeferred iz,?_⟩⟩
   refine⟨.tuple #[.agg #[iv 0,iv 0,iv 0,iv 0],.bool false],?_,rfl,(aR.trans (by rw[<- ol];exact⟨rfl,rfl,rfl,nlr _,fun _ _=>rfl⟩)).trans (belowK_b (w:=w) (nlr _) _ D _ _ (by simp at hD;omega) iz rfl rfl)⟩
   simp[results,Tryz.results212,go_sem,q0,q1,q2,q3]
  ·have hG:=HS k' (by omega) e2 (by rw[e5];exact e3)
   rw[e5]at hG
   obtain rfl:=hG
   clear HS HN HC e1 e2 e3 e5
   obtain⟨⟨y0,y1,y2,y3⟩,hy⟩:=s
   obtain⟨f0,f1,f2,f3⟩:=uf
   have uE:=(hB.block (w.heap.size+1+1) (by omega)).trans hR
   obtain⟨⟨r0,r1,r2,r3⟩,fX⟩:=jej uE
   have GN:=fX 0
   have GO:=fX 1
   have GP:=fX 2
   have GQ:=fX 3
   have lr:=jel W (w.heap.size+1+1) (iv y0) (iv y1) (iv y2) (iv y3)
   have aR:=jeq (eX.trans (hB.mono (by omega))) (w.heap.size+1+1) (by omega) (iv y0) (iv y1) (iv y2) (iv y3)
   obtain⟨s0,s1,s2,s3⟩:=jly (x:=⟨0,0,0,0⟩) (y:=⟨y0,y1,y2,y3⟩) ⟨r0,r1,r2,r3⟩
   have iO:w.heap.size+1+1+1≠w.heap.size+1+1:=by omega
   have gF:w.heap.size+1+1+1+1≠w.heap.size+1+1:=by omega
   clear fX cK qP
   simp only at r0 r1 r2 r3 s0 s1 s2 s3 f0 f1 f2 f3
   gi_wp2
   refine wpIn_wide.2 ?_
   go_region
   gi_wp2
   have iz:=(lr.trans (KeepsOthers.drew _)).same D _ hK rfl
   obtain⟨WD,ol⟩:=qeb ((((((W.setCell (ad (w.heap.size+1+1) 0) (iv y0)).setCell (ad (w.heap.size+1+1) 1) (iv y1)).setCell (ad (w.heap.size+1+1) 2) (iv y2)).setCell (ad (w.heap.size+1+1) 3) (iv y3)).drew))
   rw[<- cell_drew_own]at s0 s1 s2 s3
   rw[ol]at s0 s1 s2 s3 iz ⊢
   have hP:=grownBy_putObj' WD D (.deferred none)
   have iC:∀r,some D=some r->∃o:Obj,WD.heap[r]? =some o/\o.isCells=false:=fun r e=>by cases e;exact⟨_,iz,rfl⟩
   have q0:=cell_kept (W:=WD) s0 hP iC
   have q1:=cell_kept (W:=WD) s1 hP iC
   have q2:=cell_kept (W:=WD) s2 hP iC
   have q3:=cell_kept (W:=WD) s3 hP iC
   refine⟨by simp,.inl ⟨_,_,rfl,run_takeDeferred iz,?_⟩⟩
   refine⟨.tuple #[.agg #[iv y0,iv y1,iv y2,iv y3],.bool true],?_,rfl,(aR.trans (by rw[<- ol];exact⟨rfl,rfl,rfl,nlr _,fun _ _=>rfl⟩)).trans (belowK_b (w:=w) (nlr _) _ D _ _ (by simp at hD;omega) iz rfl rfl)⟩
   simp[results,Tryz.results212,go_sem,q0,q1,q2,q3]
end
theorem js3(w:World)(t:TypeId):(w.alloc (.cells #[] t)).ownsRow w.heap.size t 1 (.slice (some (ad w.heap.size 0)) 0 0) 0 []:=
 ⟨rfl,.inr ⟨w.heap.size,0,#[],rfl,nlr _,World.alloc_heap_new w _,nlr _,by unfold maxLen;omega,rfl,rfl⟩⟩
theorem js2{w:World}{base fI:Nat}{e:TypeId}{size:Nat}{v:Value}{n:Nat}{xs:List Value}(h:w.ownsRow base e size v n xs)(hb:fI<=base):w.ownsRow fI e size v n xs:=by
 refine⟨h.1,?_⟩
 rcases h.2 with h|⟨g,cap,cur,e1,e2,e3⟩
 ·exact .inl h
 ·exact .inr ⟨g,cap,cur,e1,by omega,e3⟩
theorem jg8(l:List TurnD)(v:Value)(m:Int)(hT:Js l)(m1: -62135596800<=m)(m2:m<=253402300799)(w:World)(hv:Zy w v l):
  Cl 94 #[v,iv m] w fun e W'=>∃v',e=.returned v'/\W'.ownsRow w.heap.size 2 1 v' (jdn l m).length ((jdn l m).map (Value.int .i64))/\Bw w W':=by
 have au:=hT.len
 obtain⟨i0,hi,aG,aH,aF⟩:=info_parts j09
 obtain⟨a,cap,rfl,hA⟩:=hv
 obtain⟨f,hf⟩:∃x,l[0]? =some x:=⟨_,lgg (by omega)⟩
 obtain⟨b,o,rfl,hd⟩:=hA.at (i:=0) (r:=f.cs) (by rw[lgm,hf];rfl)
 have mt:b<w.heap.size:=qbl (hd 0 _ rfl)
 clear hd hf
 have aT:∀(wr:World),Bw w wr->∀(k:Nat) (x:TurnD),l[k]? =some x->wr.cell? (ad b (o+k*4))=some (iv x.at_)/\wr.cell? (ad b (o+k*4+1))=some (iv x.offset):=fun wr hB k x hx=>by
  obtain⟨b',o',he,hc⟩:=hA.at (i:=k) (r:=x.cs) (by rw[lgm,hx];rfl)
  injection he with he
  injection he with u1 u2
  subst u1 u2
  exact⟨(hB.cell (p:=(ad b _)) mt).trans (hc 0 _ rfl),(hB.cell (p:=(ad b _)) mt).trans (hc 1 _ rfl)⟩
 have HI:Hid (jdn l m=jar m (jat l l.length)):=rfl
 unfold Cl;go_in
 go_wp2
 obtain⟨wA,cK⟩:=qeb ((w.alloc (.cells #[.slice (some (ad b o)) l.length cap] 138)))
 have ji:wA.heap.size=w.heap.size+1:=by rw[<- cK];simp
 have eX:Bw w wA:=by rw[<- cK];exact qal w _
 have cB:wA.cell? (ad w.heap.size 0)=some (.slice (some (ad b o)) l.length cap):=by rw[<- cK];simp[go_sem]
 have hE:=js3 wA 2
 rw[ji]at hE
 rw[cK]
 go_loopw [5,6] (fun s5 s6 wr=>∃k:Nat,k<=l.length/\s6=iv k/\wr.ownsRow (w.heap.size+1) 2 1 s5 (jar m (jat l k)).length ((jar m (jat l k)).map (Value.int .i64))/\Below (w.heap.size+1) wA wr) (fun _ s6 _=>l.length-(intOf s6).toNat)
 case atStart=>exact⟨0,by omega,rfl,hE,(brf _ _).alloc (by omega) _⟩
 case round=>
  obtain⟨k,hk,rfl,ai,hB⟩:=hrel
  have dI:=hB.size
  have eM:=eX.trans (hB.mono (show w.heap.size<=w.heap.size+1 by omega))
  have NY:wr.cell? (ad w.heap.size 0)=some (.slice (some (ad b o)) l.length cap):=(hB.cell (p:=(ad w.heap.size 0)) (show w.heap.size<w.heap.size+1 by omega)).trans cB
  have iP:=jib m (jat l k)
  rw[jd0]at iP
  by_cases hlt:k<l.length
  ·obtain⟨x,hx⟩:=qgg hlt
   obtain⟨c0,c1⟩:=aT wr eM k x hx
   obtain⟨z1,z2⟩:=jax (jnl hT (lmg hx))
   by_cases hlt2:k+1<l.length
   ·obtain⟨y,hy⟩:∃y,l[k+1]? =some y:=⟨_,lgg hlt2⟩
    have d0:=(aT wr eM (k+1) y hy).1
    have y1:=hT.top _ y hy
    have y2:=jpe hT hy
    have HV:Hid ((strK l k).1.first=x.at_/\(strK l k).1.last=y.at_-1/\(strK l k).1.own=x.offset):=by
     simp only[Hid];rw[jdg hT hlt];unfold jh3;rw[hx,hy];exact⟨rfl,rfl,rfl⟩
    clear hx hy aT
    by_cases g1:x.at_<=m-x.offset
    ·by_cases g2:m-x.offset<=y.at_-1
     ·have HS:Hid (jar m (jat l (k+1))=jar m (jat l k)++[m-x.offset]):=by simp only[Hid];rw[uptoS_succ];exact(shownL_hit (by rw[HV.out.1,HV.out.2.2];exact g1) (by rw[HV.out.2.1,HV.out.2.2];exact g2)).trans (by rw[HV.out.2.2])
      have yC:Hid (jar m (jat l (k+1))=jar m (jat l (k+1))):=rfl
      obtain⟨o,ho⟩:=qeb (jar m (jat l k))
      rw[ho]at ai HS iP
      clear yC HV ho
      go_wp2_with (first
       |(at_builtin;refine wpList_append_own _ rfl _ _ 164 rfl (w.heap.size+1) 2 i0 (iv 0) 1 8 Tryz.underlying164 hi aG aH aF rfl (by decide) _ _ _ rfl (ai.alloc _) ⟨wr.heap.size,0,none⟩ 1 1 [iv (m-x.offset)] rfl rfl ?c1 ?c2 ?c3 ?c4 ?c5 ?_)
       |fail)
      case c1=>exact cell_one_new _ _ _
      case c2=>intro u hu;simp at hu;subst hu;rfl
      case c3=>unfold maxLen;omega
      case c4=>omega
      case c5=>simp;omega
      ·intro v' w1 ao af _
       have aj:Below (w.heap.size+1) wA w1:=(hB.alloc (by omega) _).grown af (by simp;omega) (fun j hj=>(ai.lt j hj).1)
       have HO:Hid (w1.ownsRow (w.heap.size+1) 2 1 v' (o++[m-x.offset]).length ((o++[m-x.offset]).map (Value.int .i64))):=by simpa [Hid]using ao
       clear af ao ai
       go_wp2
       go_roundw
       case rel=>exact⟨k+1,by omega,by go_num,by rw[HS.out];exact HO.out,aj⟩
       case measure=>simp[intOf];omega
     ·have HS:Hid (jar m (jat l (k+1))=jar m (jat l k)):=by simp only[Hid];rw[uptoS_succ];exact(shownL_miss2 (by rw[HV.out.2.1,HV.out.2.2];exact g2))
      clear HV
      go_wp2
      go_roundw
      case rel=>exact⟨k+1,by omega,by go_num,by rw[HS.out];exact ai,hB⟩
      case measure=>simp[intOf];omega
    ·have HS:Hid (jar m (jat l (k+1))=jar m (jat l k)):=by simp only[Hid];rw[uptoS_succ];exact(shownL_miss1 (by rw[HV.out.1,HV.out.2.2];exact g1))
     clear HV
     go_wp2
     go_roundw
     case rel=>exact⟨k+1,by omega,by go_num,by rw[HS.out];exact ai,hB⟩
     case measure=>simp[intOf];omega
   ·have hy:l[k+1]? =none:=List.getElem?_eq_none (by omega)
    have HV:Hid ((strK l k).1.first=x.at_/\(strK l k).1.last=253402300799/\(strK l k).1.own=x.offset):=by
     simp only[Hid];rw[jdg hT hlt];unfold jh3;rw[hx,hy];exact⟨rfl,rfl,rfl⟩
    clear hx hy aT
    by_cases g1:x.at_<=m-x.offset
    ·by_cases g2:m-x.offset<=253402300799
     ·have HS:Hid (jar m (jat l (k+1))=jar m (jat l k)++[m-x.offset]):=by simp only[Hid];rw[uptoS_succ];exact(shownL_hit (by rw[HV.out.1,HV.out.2.2];exact g1) (by rw[HV.out.2.1,HV.out.2.2];exact g2)).trans (by rw[HV.out.2.2])
      have yC:Hid (jar m (jat l (k+1))=jar m (jat l (k+1))):=rfl
      obtain⟨o,ho⟩:=qeb (jar m (jat l k))
      rw[ho]at ai HS iP
      clear yC HV ho
      go_wp2_with (first
       |(at_builtin;refine wpList_append_own _ rfl _ _ 164 rfl (w.heap.size+1) 2 i0 (iv 0) 1 8 Tryz.underlying164 hi aG aH aF rfl (by decide) _ _ _ rfl (ai.alloc _) ⟨wr.heap.size,0,none⟩ 1 1 [iv (m-x.offset)] rfl rfl ?d1 ?d2 ?d3 ?d4 ?d5 ?_)
       |fail)
      case d1=>exact cell_one_new _ _ _
      case d2=>intro u hu;simp at hu;subst hu;rfl
      case d3=>unfold maxLen;omega
      case d4=>omega
      case d5=>simp;omega
      ·intro v' w1 ao af _
       have aj:Below (w.heap.size+1) wA w1:=(hB.alloc (by omega) _).grown af (by simp;omega) (fun j hj=>(ai.lt j hj).1)
       have HO:Hid (w1.ownsRow (w.heap.size+1) 2 1 v' (o++[m-x.offset]).length ((o++[m-x.offset]).map (Value.int .i64))):=by simpa [Hid]using ao
       clear af ao ai
       go_wp2
       go_roundw
       case rel=>exact⟨k+1,by omega,by go_num,by rw[HS.out];exact HO.out,aj⟩
       case measure=>simp[intOf];omega
     ·have HS:Hid (jar m (jat l (k+1))=jar m (jat l k)):=by simp only[Hid];rw[uptoS_succ];exact(shownL_miss2 (by rw[HV.out.2.1,HV.out.2.2];exact g2))
      clear HV
      go_wp2
      go_roundw
      case rel=>exact⟨k+1,by omega,by go_num,by rw[HS.out];exact ai,hB⟩
      case measure=>simp[intOf];omega
    ·have HS:Hid (jar m (jat l (k+1))=jar m (jat l k)):=by simp only[Hid];rw[uptoS_succ];exact(shownL_miss1 (by rw[HV.out.1,HV.out.2.2];exact g1))
     clear HV
     go_wp2
     go_roundw
     case rel=>exact⟨k+1,by omega,by go_num,by rw[HS.out];exact ai,hB⟩
     case measure=>simp[intOf];omega
  ·obtain rfl:k=l.length:=by omega
   go_wp2
   go_ret
   exact⟨_,rfl,by rw[HI.out];exact js2 ai (by omega),eM⟩
def jhl(L:List Int)(f:Int):Int × Int:=if 1<L.length/\f=0 then(0,9)else(L[if f=2 then L.length-1 else 0]?.getD 0,0)
theorem foldD_no{L:List Int}{f:Int}(h1:1<L.length)(h2:f=0):jhl L f=(0,9):=by unfold jhl;rw[if_pos ⟨h1,h2⟩]
theorem foldD_last{L:List Int}{f:Int}(h2:f=2){x:Int}(hx:L[L.length-1]? =some x):jhl L f=(x,0):=by unfold jhl;rw[if_neg (by omega),if_pos h2,hx];rfl
theorem foldD_first{L:List Int}{f:Int}(h:¬(1<L.length/\f=0))(h2:f≠2){x:Int}(hx:L[0]? =some x):jhl L f=(x,0):=by unfold jhl;rw[if_neg h,if_neg h2,hx];rfl
def gapR(G:Option StrK)(n g:Int):Int × Int:=match G with
 |none=>(0,4)
 |some s=>if g=0 then(0,8)else if g=1 then jh0 (n-s.1.ahead)else jh0 (n-s.1.own)
def resR(l:List TurnD)(n g f:Int):Int × Int:=if (jdn l n).length=0 then gapR (gapD l n) n g else jhl (jdn l n) f
def resD(l:List TurnD)(n g f:Int):Int × Int:=if tabB l=true/\isB n (-62135596800) 253402300799=true/\isB g 0 2=true/\isB f 0 2=true then resR l n g f else(0,1)
theorem jyy{l:List TurnD}{n g f:Int}(h:tabB l=false):resD l n g f=(0,1):=by unfold resD;rw[if_neg (by rw[h];simp)]
theorem jyx{l:List TurnD}{n g f:Int}(h:isB n (-62135596800) 253402300799=false):resD l n g f=(0,1):=by unfold resD;rw[if_neg (by rw[h];simp)]
theorem jyw{l:List TurnD}{n g f:Int}(h:isB g 0 2=false):resD l n g f=(0,1):=by unfold resD;rw[if_neg (by rw[h];simp)]
theorem jyv{l:List TurnD}{n g f:Int}(h:isB f 0 2=false):resD l n g f=(0,1):=by unfold resD;rw[if_neg (by rw[h];simp)]
theorem jri{l:List TurnD}{n g f:Int}(h1:tabB l=true)(h2:isB n (-62135596800) 253402300799=true)(h3:isB g 0 2=true)(h4:isB f 0 2=true):resD l n g f=resR l n g f:=by unfold resD;rw[if_pos ⟨h1,h2,h3,h4⟩]
theorem jbw(n:Int)(w:World):
  Cl 107 #[iv n] w fun e w'=>e=.returned (.bool (isB n 0 2))/\w'=w:=by
 by_cases h:0<=n
 ·unfold Cl;go_in
  go_wp2
  go_ret
  exact⟨ret_bool (by unfold isB;simp[h]),rfl⟩
 ·unfold Cl;go_in
  go_wp2
  go_ret
  exact⟨ret_bool (jj8 (by omega)).symm,rfl⟩
theorem jfp{w:World}{base:Nat}{v:Value}{L:List Int}{n:Nat}(hn:L.length=n+1)(h:w.ownsRow base 2 1 v L.length (L.map (Value.int .i64))):∃g cap,v=so g (n+1) cap/\g<w.heap.size/\base<=g/\∀i x,L[i]? =some x->w.cell? (ad g i)=some (iv x):=by
 rw[hn]at h
 obtain⟨g,cap,rfl⟩:=ownsRow_succ h
 have hg:=h.lt g rfl
 refine⟨g,cap,rfl,hg.2,hg.1,fun i x hx=>?_⟩
 have hi:=(lgs hx).1
 rw[h.cellAt i (by omega),lgm,hx]
 rfl
theorem jge(L:List Int)(v:Value)(f:Int)(w:World)(base:Nat)(hL:0<L.length)(hm:L.length<=600)(h:w.ownsRow base 2 1 v L.length (L.map (Value.int .i64))):
  Cl 183 #[v,iv f] w fun e w'=>e=.returned (outV (jhl L f))/\Bw w w':=by
 obtain⟨n,hn⟩:∃n,L.length=n+1:=⟨L.length-1,by omega⟩
 obtain⟨g,cap,rfl,hg,_,hc⟩:=jfp hn h
 obtain⟨x,hx⟩:∃x,L[0]? =some x:=⟨_,lgg (by omega)⟩
 obtain⟨y,hy⟩:∃y,L[n]? =some y:=⟨_,lgg (by omega)⟩
 have c0:=hc 0 x hx
 have c1:=hc n y hy
 have ag:=fun o=>qal w o
 have F1:=fun h1 h2=>@foldD_no L f h1 h2
 have F2:=fun h2=>@foldD_last L f h2 y (by rw[hn];exact hy)
 have F3:=fun h1 h2=>@foldD_first L f h1 h2 x hx
 rw[hn]at F1 F3 hm
 generalize jhl L f=R at *
 have az:g≠w.heap.size:=by omega
 clear hc hx hy h hn hL
 by_cases h1:0<n
 ·by_cases h2:f=0
  ·obtain rfl:=F1 (by omega) h2
   subst h2
   clear F1 F2 F3
   unfold Cl;go_in
   go_wp2
   exact bpr (v:=outV (0,9)) (by simp[results,Tryz.results183,go_sem,outV]) rfl ⟨rfl,ag _⟩
  ·by_cases h3:f=2
   ·obtain rfl:=F2 h3
    subst h3
    clear F1 F2 F3
    unfold Cl;go_in
    go_wp2
    exact bpr (v:=outV (y,0)) (by simp[results,Tryz.results183,go_sem,outV]) rfl ⟨rfl,ag _⟩
   ·obtain rfl:=F3 (by omega) h3
    have e1:(f==0)=false:=by simp[h2]
    have e2:(f==2)=false:=by simp[h3]
    clear F1 F2 F3
    unfold Cl;go_in
    go_wp2
    exact bpr (v:=outV (x,0)) (by simp[results,Tryz.results183,go_sem,outV]) rfl ⟨rfl,ag _⟩
 ·obtain rfl:n=0:=by omega
  by_cases h3:f=2
  ·obtain rfl:=F2 h3
   subst h3
   clear F1 F2 F3 c0
   unfold Cl;go_in
   go_wp2
   exact bpr (v:=outV (y,0)) (by simp[results,Tryz.results183,go_sem,outV]) rfl ⟨rfl,ag _⟩
  ·obtain rfl:=F3 (by omega) h3
   have e2:(f==2)=false:=by simp[h3]
   clear F1 F2 F3 c1
   unfold Cl;go_in
   go_wp2
   exact bpr (v:=outV (x,0)) (by simp[results,Tryz.results183,go_sem,outV]) rfl ⟨rfl,ag _⟩
theorem jw4(n g:Int):gapR none n g=(0,4):=rfl
theorem j1b(s:StrK)(n:Int):gapR (some s) n 0=(0,8):=rfl
theorem j1a(s:StrK)(n:Int):gapR (some s) n 1=jh0 (n-s.1.ahead):=rfl
theorem gapR_2(s:StrK){n g:Int}(h0:g≠0)(h1:g≠1):gapR (some s) n g=jh0 (n-s.1.own):=by unfold gapR;simp only;rw[if_neg h0,if_neg h1]
theorem j25(s:StrK):(-100000<=s.1.ahead/\s.1.ahead<=100000)/\(-100000<=s.1.own/\s.1.own<=100000):=by
 have fm:=s.2
 unfold StrD.ok at fm
 simp only[bat]at fm
 exact⟨jax fm.2.2.1,jax fm.2.2.2⟩
theorem jhh(l:List TurnD)(v:Value)(m g:Int)(hT:Js l)(m1: -62135596800<=m)(m2:m<=253402300799)(w:World)(hv:Zy w v l):
  Cl 182 #[v,iv m,iv g] w fun e w'=>e=.returned (outV (gapR (gapD l m) m g))/\Bw w w':=by
 have hG:=fun v w h=>jtt l v m hT m1 m2 w h
 generalize gapD l m=G at *
 obtain⟨a,cap,rfl,hA⟩:=hv
 have hv:Zy w (.agg #[.slice a l.length cap]) l:=⟨a,cap,rfl,hA⟩
 have ag:=fun o o2=>(qal w o).alloc (by simp) o2
 have br:∀w1,Below ((w.alloc (.cells #[.slice a l.length cap] 138)).alloc (.cells #[iv 0,iv 0] 143)).heap.size ((w.alloc (.cells #[.slice a l.length cap] 138)).alloc (.cells #[iv 0,iv 0] 143)) w1->
   (w1.cell? (ad (w.heap.size+1) 0)=some (iv 0)/\w1.cell? (ad (w.heap.size+1) 1)=some (iv 0))/\(∀i,w1.frozen? (ad (w.heap.size+1) i)=false)/\w1.cell? (ad w.heap.size 0)=some (.slice a l.length cap)/\Bw w w1:=fun w1 hb1=>by
  obtain⟨aX,dg⟩:=jaf hb1
  exact⟨⟨(aX _ _ (by simp)).trans (by simp[go_sem]),(aX _ _ (by simp)).trans (by simp[go_sem])⟩,fun i=>(dg _ _ (by simp)).trans (by simp[go_sem]),(aX _ _ (by simp;omega)).trans (by simp[go_sem]),(ag _ _).trans (hb1.mono (by simp;omega))⟩
 have dM:∀(w1:World) (P:Int × Int) o,(w1.cell? (ad (w.heap.size+1) 0)=some (iv 0)/\w1.cell? (ad (w.heap.size+1) 1)=some (iv 0))->(∀i,w1.frozen? (ad (w.heap.size+1) i)=false)->Bw w w1->∀w2,Below (w1.alloc o).heap.size (w1.alloc o) w2->(w2.cell? (ad (w.heap.size+1) 0)=some (iv 0)/\w2.cell? (ad (w.heap.size+1) 1)=some (iv 0))/\(w2.frozen? (ad (w.heap.size+1) 0)=false/\w2.frozen? (ad (w.heap.size+1) 1)=false)/\Bw w w2:=fun w1 P o h1 h2 hB w2 ac=>by
  have ha:Bw w1 w2:=(qal w1 o).trans (ac.mono (by simp))
  obtain⟨aX,dg⟩:=jaf ha
  have hlt:=qbl h1.1
  exact⟨⟨(aX _ _ hlt).trans h1.1,(aX _ _ hlt).trans h1.2⟩,⟨(dg _ _ hlt).trans (h2 0),(dg _ _ hlt).trans (h2 1)⟩,(qtr hB ha)⟩
 cases G with
 |none=>
  rw[jw4]
  simp only[gapS,StrD.v,Option.isSome]at hG
  unfold Cl;go_in
  go_wp2_with fail
  refine(hG _ _ (hv.below (ag _ _))).mono ?_
  rintro e w1 ⟨rfl,hb1⟩
  obtain⟨⟨r0,r1⟩,f,t0,aj⟩:=br w1 hb1
  have f0:=f 0
  have f1:=f 1
  have az:w.heap.size+1≠w1.heap.size:=by have:=qbl r0;simp at this;omega
  obtain⟨⟨q0,q1⟩,⟨g0,g1⟩,dV⟩:=dM w1 (0,0) (.cells #[iv 0,iv 0,iv 0,iv 0] 272) ⟨r0,r1⟩ f aj _ (brf _ _)
  obtain⟨s0,s1⟩:=ja4 (v0:=iv 0) (v1:=iv 4) q0 q1
  clear f br dM hb1
  go_wp2
  exact bpr (v:=outV (0,4)) (by simp[results,Tryz.results182,go_sem,outV,s0,s1]) rfl ⟨rfl,(dV.setCell (show w.heap.size<=w.heap.size+1 by omega) _).setCell (show w.heap.size<=w.heap.size+1 by omega) _⟩
 |some s=>
  obtain⟨⟨a1,a2⟩,o1,o2⟩:=j25 s
  have R0:=j1b s m
  have R1:=j1a s m
  have R2:=fun h0 h1=>@gapR_2 s m g h0 h1
  simp only[gapS,StrD.v,Option.isSome]at hG
  obtain⟨⟨x0,x1,x2,x3⟩,hx⟩:=s
  simp only at hG a1 a2 o1 o2 R1 R2
  have Fy:=fun w=>jdu (m-x2) w
  have lA:=fun w=>jdu (m-x3) w
  generalize jh0 (m-x2)=P1 at *
  generalize jh0 (m-x3)=P2 at *
  obtain⟨p1,p2⟩:=P1
  obtain⟨p3,p4⟩:=P2
  unfold outV at Fy lA ⊢
  by_cases h0:g=0
  ·subst h0
   rw[R0]
   clear R0 R1 R2
   unfold Cl;go_in
   go_wp2_with fail
   refine(hG _ _ (hv.below (ag _ _))).mono ?_
   rintro e w1 ⟨rfl,hb1⟩
   obtain⟨⟨r0,r1⟩,f,t0,aj⟩:=br w1 hb1
   have f0:=f 0
   have f1:=f 1
   have az:w.heap.size+1≠w1.heap.size:=by have:=qbl r0;simp at this;omega
   obtain⟨⟨q0,q1⟩,⟨g0,g1⟩,dV⟩:=dM w1 (0,0) (.cells #[iv x0,iv x1,iv x2,iv x3] 272) ⟨r0,r1⟩ f aj _ (brf _ _)
   obtain⟨s0,s1⟩:=ja4 (v0:=iv 0) (v1:=iv 8) q0 q1
   clear f br dM hb1
   go_wp2
   exact bpr (v:=outV (0,8)) (by simp[results,Tryz.results182,go_sem,outV,s0,s1]) rfl ⟨rfl,(dV.setCell (show w.heap.size<=w.heap.size+1 by omega) _).setCell (show w.heap.size<=w.heap.size+1 by omega) _⟩
  ·have e0:(g==0)=false:=by simp[h0]
   by_cases h1:g=1
   ·subst h1
    rw[R1]
    clear R0 R1 R2 e0
    unfold Cl;go_in
    go_wp2_with fail
    refine(hG _ _ (hv.below (ag _ _))).mono ?_
    rintro e w1 ⟨rfl,hb1⟩
    obtain⟨⟨r0,r1⟩,f,t0,aj⟩:=br w1 hb1
    have KK:=dM w1 (0,0) (.cells #[iv x0,iv x1,iv x2,iv x3] 272) ⟨r0,r1⟩ f aj
    clear f br dM hb1
    go_wp2_with fail
    refine(Fy _).mono ?_
    rintro e w2 ⟨rfl,ac⟩
    obtain⟨⟨q0,q1⟩,⟨g0,g1⟩,dV⟩:=KK w2 ac
    obtain⟨s0,s1⟩:=ja4 (v0:=iv p1) (v1:=iv p2) q0 q1
    clear KK ac
    go_wp2
    exact bpr (v:=.agg #[iv p1,iv p2]) (by simp[results,Tryz.results182,go_sem,s0,s1]) rfl ⟨rfl,(dV.setCell (show w.heap.size<=w.heap.size+1 by omega) _).setCell (show w.heap.size<=w.heap.size+1 by omega) _⟩
   ·have e1:(g==1)=false:=by simp[h1]
    rw[R2 h0 h1]
    clear R0 R1 R2
    unfold Cl;go_in
    go_wp2_with fail
    refine(hG _ _ (hv.below (ag _ _))).mono ?_
    rintro e w1 ⟨rfl,hb1⟩
    obtain⟨⟨r0,r1⟩,f,t0,aj⟩:=br w1 hb1
    have KK:=dM w1 (0,0) (.cells #[iv x0,iv x1,iv x2,iv x3] 272) ⟨r0,r1⟩ f aj
    clear f br dM hb1
    go_wp2_with fail
    refine(lA _).mono ?_
    rintro e w2 ⟨rfl,ac⟩
    obtain⟨⟨q0,q1⟩,⟨g0,g1⟩,dV⟩:=KK w2 ac
    obtain⟨s0,s1⟩:=ja4 (v0:=iv p3) (v1:=iv p4) q0 q1
    clear KK ac
    go_wp2
    exact bpr (v:=.agg #[iv p3,iv p4]) (by simp[results,Tryz.results182,go_sem,s0,s1]) rfl ⟨rfl,(dV.setCell (show w.heap.size<=w.heap.size+1 by omega) _).setCell (show w.heap.size<=w.heap.size+1 by omega) _⟩
theorem jic{w:World}{base:Nat}{e:TypeId}{size:Nat}{v:Value}{n:Nat}{xs:List Value}(h:w.ownsRow base e size v n xs):∃a c,v=.slice a n c:=by
 rcases h.2 with⟨rfl,rfl⟩|⟨g,cap,cur,rfl,_⟩
 ·exact⟨_,_,rfl⟩
 ·exact⟨_,_,rfl⟩
theorem jwk(l:List TurnD)(n:Int):(jdn l n).length<=l.length:=by
 have:=jib n (jat l l.length)
 rw[jd0]at this
 exact this
theorem resR_gap{l:List TurnD}{n g f:Int}(h:(jdn l n).length=0):resR l n g f=gapR (gapD l n) n g:=by unfold resR;rw[if_pos h]
theorem resR_fold{l:List TurnD}{n g f:Int}(h:(jdn l n).length≠0):resR l n g f=jhl (jdn l n) f:=by unfold resR;rw[if_neg h]
theorem jos(l:List TurnD)(v:Value)(n g f:Int)(w:World)(hv:Zy w v l)(gW:∀r∈l,r.ok)(hl:l.length<=1048576):
  Cl 153 #[v,iv n,iv g,iv f] w fun e w'=>e=.returned (outV (resD l n g f))/\Bw w w':=by
 obtain⟨a,cap,rfl,hA⟩:=hv
 have hv:Zy w (.agg #[.slice a l.length cap]) l:=⟨a,cap,rfl,hA⟩
 have ag:=fun o o2=>(qal w o).alloc (by simp) o2
 have br:∀w1,Below ((w.alloc (.cells #[.slice a l.length cap] 138)).alloc (.cells #[iv 0,iv 0] 143)).heap.size ((w.alloc (.cells #[.slice a l.length cap] 138)).alloc (.cells #[iv 0,iv 0] 143)) w1->
   (w1.cell? (ad (w.heap.size+1) 0)=some (iv 0)/\w1.cell? (ad (w.heap.size+1) 1)=some (iv 0))/\(∀i,w1.frozen? (ad (w.heap.size+1) i)=false)/\w1.cell? (ad w.heap.size 0)=some (.slice a l.length cap)/\Bw w w1:=fun w1 hb1=>by
  obtain⟨aX,dg⟩:=jaf hb1
  exact⟨⟨(aX _ _ (by simp)).trans (by simp[go_sem]),(aX _ _ (by simp)).trans (by simp[go_sem])⟩,fun i=>(dg _ _ (by simp)).trans (by simp[go_sem]),(aX _ _ (by simp;omega)).trans (by simp[go_sem]),(ag _ _).trans (hb1.mono (by simp;omega))⟩
 have hM:=fun w=>jg0 n w
 have hG:=fun w=>jbw g w
 have hF:=fun w=>jbw f w
 have hI:=fun w (h:Zy w (.agg #[.slice a l.length cap]) l)=>jjh l _ w h gW hl
 cases hn:isB n (-62135596800) 253402300799
 ·rw[jyx hn]
  rw[hn]at hM
  clear hn hG hF hI
  unfold Cl;go_in
  go_wp2_with fail
  refine(hM _).mono ?_
  rintro e wM ⟨rfl,rfl⟩
  go_wp2
  exact bpr (v:=outV (0,1)) (by simp[results,Tryz.results153,go_sem,outV]) rfl ⟨rfl,ag _ _⟩
 rw[hn]at hM
 cases hg:isB g 0 2
 ·rw[jyw hg]
  rw[hg]at hG
  clear hn hg hF hI
  unfold Cl;go_in
  go_wp2_with fail
  refine(hM _).mono ?_
  rintro e wM ⟨rfl,rfl⟩
  go_wp2_with fail
  refine(hG _).mono ?_
  rintro e wM ⟨rfl,rfl⟩
  go_wp2
  exact bpr (v:=outV (0,1)) (by simp[results,Tryz.results153,go_sem,outV]) rfl ⟨rfl,ag _ _⟩
 rw[hg]at hG
 cases hf:isB f 0 2
 ·rw[jyv hf]
  rw[hf]at hF
  clear hn hg hf hI
  unfold Cl;go_in
  go_wp2_with fail
  refine(hM _).mono ?_
  rintro e wM ⟨rfl,rfl⟩
  go_wp2_with fail
  refine(hG _).mono ?_
  rintro e wM ⟨rfl,rfl⟩
  go_wp2_with fail
  refine(hF _).mono ?_
  rintro e wM ⟨rfl,rfl⟩
  go_wp2
  exact bpr (v:=outV (0,1)) (by simp[results,Tryz.results153,go_sem,outV]) rfl ⟨rfl,ag _ _⟩
 rw[hf]at hF
 cases ht:tabB l
 ·rw[jyy ht]
  rw[ht]at hI
  clear hn hg hf ht
  unfold Cl;go_in
  go_wp2_with fail
  refine(hM _).mono ?_
  rintro e wM ⟨rfl,rfl⟩
  go_wp2_with fail
  refine(hG _).mono ?_
  rintro e wM ⟨rfl,rfl⟩
  go_wp2_with fail
  refine(hF _).mono ?_
  rintro e wM ⟨rfl,rfl⟩
  go_wp2_with fail
  refine(hI _ (hv.below (ag _ _))).mono ?_
  rintro e w1 ⟨rfl,hb1⟩
  obtain⟨⟨r0,r1⟩,fz,t0,aj⟩:=br w1 hb1
  have f0:=fz 0
  have f1:=fz 1
  obtain⟨s0,s1⟩:=ja4 (v0:=iv 0) (v1:=iv 1) r0 r1
  clear fz br hb1
  go_wp2
  exact bpr (v:=outV (0,1)) (by simp[results,Tryz.results153,go_sem,outV,s0,s1]) rfl ⟨rfl,(aj.setCell (show w.heap.size<=w.heap.size+1 by omega) _).setCell (show w.heap.size<=w.heap.size+1 by omega) _⟩
 rw[jri ht hn hg hf]
 rw[ht]at hI
 have hR:=j0x ht
 obtain⟨n1,n2⟩:=jax hn
 have au:=hR.len
 have i7:=jwk l n
 have hS:=fun w (h:Zy w (.agg #[.slice a l.length cap]) l)=>joj l _ n hR n1 n2 w h
 have hP:=fun w (h:Zy w (.agg #[.slice a l.length cap]) l)=>jhh l _ n g hR n1 n2 w h
 have hD:=fun v w base h1 h2 h3=>jge (jdn l n) v f w base h1 h2 h3
 have E1:=@resR_gap l n g f
 have E2:=@resR_fold l n g f
 clear hn hg hf ht
 generalize jdn l n=L at *
 generalize gapR (gapD l n) n g=Pg at *
 generalize jhl L f=Pf at *
 generalize resR l n g f=R at *
 by_cases hL:L.length=0
 ·obtain rfl:=E1 hL
  obtain⟨p1,p2⟩:=R
  rw[hL]at hS
  unfold outV at hP ⊢
  clear E1 E2 hD
  unfold Cl;go_in
  go_wp2_with fail
  refine(hM _).mono ?_
  rintro e wM ⟨rfl,rfl⟩
  go_wp2_with fail
  refine(hG _).mono ?_
  rintro e wM ⟨rfl,rfl⟩
  go_wp2_with fail
  refine(hF _).mono ?_
  rintro e wM ⟨rfl,rfl⟩
  go_wp2_with fail
  refine(hI _ (hv.below (ag _ _))).mono ?_
  rintro e w1 ⟨rfl,hb1⟩
  obtain⟨⟨r0,r1⟩,fz,t0,aj⟩:=br w1 hb1
  clear br hb1
  go_wp2_with fail
  refine(hS _ (hv.below aj)).mono ?_
  rintro e w2 ⟨v2,rfl,ap,ac⟩
  obtain⟨a2,c2,rfl⟩:=jic ap
  obtain⟨cU,eE⟩:=jaf ac
  have an:=qtr aj ac
  have q0:=(cU _ _ (qbl r0)).trans r0
  have q1:=(cU _ _ (qbl r1)).trans r1
  have e0:=(eE _ _ (qbl r0)).trans (fz 0)
  have e1:=(eE _ _ (qbl r1)).trans (fz 1)
  have u0:=(cU _ _ (qbl t0)).trans t0
  clear cU eE ac ap r0 r1 fz t0
  go_wp2_with fail
  refine(hP _ (hv.below an)).mono ?_
  rintro e w3 ⟨rfl,ar⟩
  obtain⟨fw,gE⟩:=jaf ar
  have ax:=qtr an ar
  have k0:=(fw _ _ (qbl q0)).trans q0
  have k1:=(fw _ _ (qbl q1)).trans q1
  have g0:=(gE _ _ (qbl q0)).trans e0
  have g1:=(gE _ _ (qbl q1)).trans e1
  obtain⟨s0,s1⟩:=ja4 (v0:=iv p1) (v1:=iv p2) k0 k1
  clear fw gE ar q0 q1 e0 e1 u0
  go_wp2
  exact bpr (v:=.agg #[iv p1,iv p2]) (by simp[results,Tryz.results153,go_sem,s0,s1]) rfl ⟨rfl,(ax.setCell (show w.heap.size<=w.heap.size+1 by omega) _).setCell (show w.heap.size<=w.heap.size+1 by omega) _⟩
 ·obtain rfl:=E2 hL
  obtain⟨p1,p2⟩:=R
  have az:((L.length:Int)==0)=false:=beq_eq_false_iff_ne.mpr (by omega)
  unfold outV at hD ⊢
  clear E1 E2 hP
  unfold Cl;go_in
  go_wp2_with fail
  refine(hM _).mono ?_
  rintro e wM ⟨rfl,rfl⟩
  go_wp2_with fail
  refine(hG _).mono ?_
  rintro e wM ⟨rfl,rfl⟩
  go_wp2_with fail
  refine(hF _).mono ?_
  rintro e wM ⟨rfl,rfl⟩
  go_wp2_with fail
  refine(hI _ (hv.below (ag _ _))).mono ?_
  rintro e w1 ⟨rfl,hb1⟩
  obtain⟨⟨r0,r1⟩,fz,t0,aj⟩:=br w1 hb1
  clear br hb1
  go_wp2_with fail
  refine(hS _ (hv.below aj)).mono ?_
  rintro e w2 ⟨v2,rfl,ap,ac⟩
  have sd:=hD _ _ _ (by omega) (by omega) ap
  obtain⟨a2,c2,rfl⟩:=jic ap
  obtain⟨cU,eE⟩:=jaf ac
  have an:=qtr aj ac
  have q0:=(cU _ _ (qbl r0)).trans r0
  have q1:=(cU _ _ (qbl r1)).trans r1
  have e0:=(eE _ _ (qbl r0)).trans (fz 0)
  have e1:=(eE _ _ (qbl r1)).trans (fz 1)
  clear cU eE ac ap r0 r1 fz t0 hD
  go_wp2_with fail
  refine sd.mono ?_
  rintro e w3 ⟨rfl,ar⟩
  obtain⟨fw,gE⟩:=jaf ar
  have ax:=qtr an ar
  have k0:=(fw _ _ (qbl q0)).trans q0
  have k1:=(fw _ _ (qbl q1)).trans q1
  have g0:=(gE _ _ (qbl q0)).trans e0
  have g1:=(gE _ _ (qbl q1)).trans e1
  obtain⟨s0,s1⟩:=ja4 (v0:=iv p1) (v1:=iv p2) k0 k1
  clear fw gE ar q0 q1 e0 e1
  go_wp2
  exact bpr (v:=.agg #[iv p1,iv p2]) (by simp[results,Tryz.results153,go_sem,s0,s1]) rfl ⟨rfl,(ax.setCell (show w.heap.size<=w.heap.size+1 by omega) _).setCell (show w.heap.size<=w.heap.size+1 by omega) _⟩
theorem jw3(l:List TurnD)(n:Int)(hT:Js l):jik n (jat l 1):=by
 intro t ht
 obtain⟨j,hj,rfl⟩:=jnp ht
 obtain rfl:j=0:=by omega
 have:=hT.len
 unfold gapB
 rw[jdg hT (by omega)]
 unfold jh3
 simp only[Nat.zero_sub]
 cases h:decide ((l[0]?.getD jmw).at_+(l[0]?.getD jmw).offset<=n)
 ·rfl
 ·rw[Bool.true_and]
  exact dfe (by have:=odt h;omega)
theorem jh6(l:List TurnD)(v:Value)(n g f:Int)(w:World)(hv:Zy w v l)(hR:Js l)(n1: -62135596800<=n)(n2:n<=253402300799)(g1:0<=g)(g2:g<=2)(_f1:0<=f)(_f2:f<=2):
  Cl 71 #[v,iv n,iv g,iv f] w fun e w'=>e=.returned (outV (resR l n g f))/\Bw w w':=by
 obtain⟨a,cap,rfl,hA⟩:=hv
 have hv:Zy w (.agg #[.slice a l.length cap]) l:=⟨a,cap,rfl,hA⟩
 have ag:=fun o o2=>(qal w o).alloc (by simp) o2
 have br:∀w1,Below ((w.alloc (.cells #[.slice a l.length cap] 138)).alloc (.cells #[iv 0,iv 0] 143)).heap.size ((w.alloc (.cells #[.slice a l.length cap] 138)).alloc (.cells #[iv 0,iv 0] 143)) w1->
   (w1.cell? (ad (w.heap.size+1) 0)=some (iv 0)/\w1.cell? (ad (w.heap.size+1) 1)=some (iv 0))/\(∀i,w1.frozen? (ad (w.heap.size+1) i)=false)/\w1.cell? (ad w.heap.size 0)=some (.slice a l.length cap)/\Bw w w1:=fun w1 hb1=>by
  obtain⟨aX,dg⟩:=jaf hb1
  exact⟨⟨(aX _ _ (by simp)).trans (by simp[go_sem]),(aX _ _ (by simp)).trans (by simp[go_sem])⟩,fun i=>(dg _ _ (by simp)).trans (by simp[go_sem]),(aX _ _ (by simp;omega)).trans (by simp[go_sem]),(ag _ _).trans (hb1.mono (by simp;omega))⟩
 have au:=hR.len
 have i7:=jwk l n
 have hS:=fun w (h:Zy w (.agg #[.slice a l.length cap]) l)=>jg8 l _ n hR n1 n2 w h
 have E1:=@resR_gap l n g f
 have E2:=@resR_fold l n g f
 have F1:=fun h1 h2=>@foldD_no (jdn l n) f h1 h2
 have F2:=fun h2 x hx=>@foldD_last (jdn l n) f h2 x hx
 have F3:=fun h1 h2 x hx=>@foldD_first (jdn l n) f h1 h2 x hx
 generalize jdn l n=L at *
 generalize jhl L f=Pf at *
 generalize resR l n g f=R at *
 by_cases hL:L.length=0
 case neg=>
  obtain rfl:=E2 hL
  obtain⟨m,hm⟩:∃m,L.length=m+1:=⟨L.length-1,by omega⟩
  obtain⟨x,hx⟩:∃x,L[0]? =some x:=⟨_,lgg (by omega)⟩
  obtain⟨y,hy⟩:∃y,L[m]? =some y:=⟨_,lgg (by omega)⟩
  clear E1 E2 hL
  by_cases h1:0<m
  ·by_cases h2:f=0
   ·obtain rfl:=F1 (by omega) h2
    subst h2
    clear F1 F2 F3
    unfold Cl;go_in
    go_wp2_with fail
    refine(hS _ (hv.below (ag _ _))).mono ?_
    rintro e w2 ⟨v2,rfl,ap,ac⟩
    obtain⟨g2,c2,rfl,_,_,_⟩:=jfp hm ap
    obtain⟨⟨q0,q1⟩,fz,t0,an⟩:=br w2 ac
    have e0:=fz 0
    have e1:=fz 1
    clear fz br ac ap
    obtain⟨s0,s1⟩:=ja4 (v0:=iv (0)) (v1:=iv 9) q0 q1
    go_wp2
    exact bpr (v:=outV (0,9)) (by simp[results,Tryz.results71,go_sem,outV,s0,s1]) rfl ⟨rfl,(an.setCell (show w.heap.size<=w.heap.size+1 by omega) _).setCell (show w.heap.size<=w.heap.size+1 by omega) _⟩
   ·by_cases h3:f=2
    ·obtain rfl:=F2 h3 y (by rw[hm];exact hy)
     subst h3
     clear F1 F2 F3
     unfold Cl;go_in
     go_wp2_with fail
     refine(hS _ (hv.below (ag _ _))).mono ?_
     rintro e w2 ⟨v2,rfl,ap,ac⟩
     obtain⟨g2,c2,rfl,_,_,fx⟩:=jfp hm ap
     have cy:=fx m y hy
     clear fx
     obtain⟨⟨q0,q1⟩,fz,t0,an⟩:=br w2 ac
     have e0:=fz 0
     have e1:=fz 1
     clear fz br ac ap
     obtain⟨s0,s1⟩:=ja4 (v0:=iv (y)) (v1:=iv 0) q0 q1
     go_wp2
     exact bpr (v:=outV (y,0)) (by simp[results,Tryz.results71,go_sem,outV,s0,s1]) rfl ⟨rfl,(an.setCell (show w.heap.size<=w.heap.size+1 by omega) _).setCell (show w.heap.size<=w.heap.size+1 by omega) _⟩
    ·obtain rfl:=F3 (by omega) h3 x hx
     have e2:(f==0)=false:=by simp[h2]
     have e3:(f==2)=false:=by simp[h3]
     clear F1 F2 F3
     unfold Cl;go_in
     go_wp2_with fail
     refine(hS _ (hv.below (ag _ _))).mono ?_
     rintro e w2 ⟨v2,rfl,ap,ac⟩
     obtain⟨g2,c2,rfl,_,_,fx⟩:=jfp hm ap
     have cx:=fx 0 x hx
     clear fx
     obtain⟨⟨q0,q1⟩,fz,t0,an⟩:=br w2 ac
     have e0:=fz 0
     have e1:=fz 1
     clear fz br ac ap
     obtain⟨s0,s1⟩:=ja4 (v0:=iv (x)) (v1:=iv 0) q0 q1
     go_wp2
     exact bpr (v:=outV (x,0)) (by simp[results,Tryz.results71,go_sem,outV,s0,s1]) rfl ⟨rfl,(an.setCell (show w.heap.size<=w.heap.size+1 by omega) _).setCell (show w.heap.size<=w.heap.size+1 by omega) _⟩
  ·obtain rfl:m=0:=by omega
   have hF:R=(x,0):=by
    by_cases h3:f=2
    ·exact F2 h3 x (by rw[hm];exact hx)
    ·exact F3 (by omega) h3 x hx
   subst hF
   clear F1 F2 F3 hy
   unfold Cl;go_in
   go_wp2_with fail
   refine(hS _ (hv.below (ag _ _))).mono ?_
   rintro e w2 ⟨v2,rfl,ap,ac⟩
   obtain⟨g2,c2,rfl,_,_,fx⟩:=jfp hm ap
   have cx:=fx 0 x hx
   clear fx
   obtain⟨⟨q0,q1⟩,fz,t0,an⟩:=br w2 ac
   have e0:=fz 0
   have e1:=fz 1
   clear fz br ac ap
   obtain⟨s0,s1⟩:=ja4 (v0:=iv (x)) (v1:=iv 0) q0 q1
   go_wp2
   exact bpr (v:=outV (x,0)) (by simp[results,Tryz.results71,go_sem,outV,s0,s1]) rfl ⟨rfl,(an.setCell (show w.heap.size<=w.heap.size+1 by omega) _).setCell (show w.heap.size<=w.heap.size+1 by omega) _⟩
 case pos=>
  have E:=E1 hL
  clear E1 E2 F1 F2 F3
  have HS:Hid (∀k,k<l.length->jik n (jat l k)->gapB n (strK l k)=true->R=gapR (some (strK l k)) n g):=fun k hk h0 h1=>by rw[E,jow hk h0 h1]
  have HN:Hid (jik n (jat l l.length)->R=(0,4)):=fun h0=>by rw[E,jjl h0];rfl
  clear E
  rw[hL]at hS
  have aT:∀(wr:World),Bw w wr->∀(k:Nat) (x:TurnD),l[k]? =some x->∃b o,a=some (ad b o)/\wr.cell? (ad b (o+k*4))=some (iv x.at_)/\wr.cell? (ad b (o+k*4+1))=some (iv x.offset):=fun wr hB k x hx=>by
   obtain⟨b',o',he,hc⟩:=(hA.below hB).at (i:=k) (r:=x.cs) (by rw[lgm,hx];rfl)
   exact⟨b',o',he,hc 0 _ rfl,hc 1 _ rfl⟩
  unfold Cl;go_in
  go_wp2_with fail
  refine(hS _ (hv.below (ag _ _))).mono ?_
  rintro e w2 ⟨v2,rfl,ap,ac⟩
  obtain⟨a2,c2,rfl⟩:=jic ap
  obtain⟨⟨q0,q1⟩,fz,t0,an⟩:=br w2 ac
  have e0:=fz 0
  have e1:=fz 1
  clear fz br ac ap
  go_wp2
  go_loopw [10] (fun s wr=>∃k:Nat,1<=k/\k<=l.length/\s=iv k/\jik n (jat l k)/\wr=w2) (fun s _=>l.length-(intOf s).toNat)
  case atStart=>exact⟨1,by omega,by omega,rfl,jw3 l n hR,rfl⟩
  case round=>
   obtain⟨k,p9,hk,rfl,lF,hw⟩:=hrel
   have hw:=hw.symm
   subst hw
   by_cases hlt:k<l.length
   case neg=>
    obtain rfl:k=l.length:=by omega
    obtain rfl:=HN.out lF
    obtain⟨s0,s1⟩:=ja4 (v0:=iv (0)) (v1:=iv 4) q0 q1
    go_wp2
    exact bpr (v:=outV (0,4)) (by simp[results,Tryz.results71,go_sem,outV,s0,s1]) rfl ⟨rfl,(an.setCell (show w.heap.size<=w.heap.size+1 by omega) _).setCell (show w.heap.size<=w.heap.size+1 by omega) _⟩
   case pos=>
    obtain⟨j,rfl⟩:∃j,k=j+1:=⟨k-1,by omega⟩
    obtain⟨x,hx⟩:∃x,l[j+1]? =some x:=⟨_,lgg hlt⟩
    obtain⟨p,hp⟩:∃x,l[j]? =some x:=⟨_,lgg (by omega)⟩
    obtain⟨b,o,ha,c0,c1⟩:=aT _ an (j+1) x hx
    obtain⟨b',o',jF,d0,d1⟩:=aT _ an j p hp
    rw[ha]at jF
    injection jF with jF
    injection jF with u1 u2
    subst u1 u2 ha
    obtain⟨z1,z2⟩:=jax (jnl hR (lmg hx))
    obtain⟨z3,z4⟩:=jax (jnl hR (lmg hp))
    have z5:=jpe hR hx
    have z6:=hR.top _ x hx
    have HV:Hid ((strK l (j+1)).1.first=x.at_/\(strK l (j+1)).1.ahead=p.offset/\(strK l (j+1)).1.own=x.offset):=by
     simp only[Hid];rw[jdg hR hlt];unfold jh3;rw[Nat.add_sub_cancel,hx,hp];exact⟨rfl,rfl,rfl⟩
    have lO:Hid (gapB n (strK l (j+1))=false->jik n (jat l (j+1+1))):=fun h=>by rw[uptoS_succ];exact jf7 lF h
    have HG:Hid (gapB n (strK l (j+1))=true->R=gapR (some (strK l (j+1))) n g):=fun h=>HS.out (j+1) hlt lF h
    clear hx hp aT HS HN d0
    by_cases h1:x.at_+p.offset<=n
    case neg=>
     have gK:=lO.out (gapB_f1 (by rw[HV.out.1,HV.out.2.1];exact h1))
     clear lO HG HV
     go_wp2
     go_roundw
     case rel=>exact⟨j+1+1,by omega,by omega,by go_num,gK,trivial⟩
     case measure=>simp[intOf];omega
    case pos=>
     by_cases h2:n<x.at_+x.offset
     case neg=>
      have gK:=lO.out (gapB_f2 (by rw[HV.out.1,HV.out.2.2];exact h2))
      clear lO HG HV
      go_wp2
      go_roundw
      case rel=>exact⟨j+1+1,by omega,by omega,by go_num,gK,trivial⟩
      case measure=>simp[intOf];omega
     case pos=>
      have E:=HG.out (gapB_t (by rw[HV.out.1,HV.out.2.1];exact h1) (by rw[HV.out.1,HV.out.2.2];exact h2))
      have R0:=j1b (strK l (j+1)) n
      have R1:=j1a (strK l (j+1)) n
      have R2:=fun h0 h1=>@gapR_2 (strK l (j+1)) n g h0 h1
      rw[HV.out.2.1]at R1
      rw[HV.out.2.2]at R2
      clear lO HG HV lF
      by_cases h0:g=0
      ·subst h0
       rw[R0]at E
       subst E
       clear R0 R1 R2
       obtain⟨s0,s1⟩:=ja4 (v0:=iv (0)) (v1:=iv 8) q0 q1
       go_wp2
       exact bpr (v:=outV (0,8)) (by simp[results,Tryz.results71,go_sem,outV,s0,s1]) rfl ⟨rfl,(an.setCell (show w.heap.size<=w.heap.size+1 by omega) _).setCell (show w.heap.size<=w.heap.size+1 by omega) _⟩
      ·have e2:(g==0)=false:=by simp[h0]
       by_cases h3:g=2
       ·subst h3
        rw[R2 (by omega) (by omega)]at E
        have mm:=fun w=>jfn (n-x.offset) w
        clear R0 R1 R2
        cases hb:isB (n-x.offset) (-62135596800) 253402300799
        ·rw[jpm hb]at E
         subst E
         rw[hb]at mm
         clear hb
         obtain⟨s0,s1⟩:=ja4 (v0:=iv 0) (v1:=iv 4) q0 q1
         go_wp2_with fail
         refine(mm _).mono ?_
         rintro e w' ⟨rfl,rfl⟩
         go_wp2
         exact bpr (v:=outV (0,4)) (by simp[results,Tryz.results71,go_sem,outV,s0,s1]) rfl ⟨rfl,(an.setCell (show w.heap.size<=w.heap.size+1 by omega) _).setCell (show w.heap.size<=w.heap.size+1 by omega) _⟩
        ·rw[jpl hb]at E
         subst E
         rw[hb]at mm
         clear hb
         obtain⟨s0,s1⟩:=ja4 (v0:=iv (n-x.offset)) (v1:=iv 0) q0 q1
         go_wp2_with fail
         refine(mm _).mono ?_
         rintro e w' ⟨rfl,rfl⟩
         go_wp2
         exact bpr (v:=outV (n-x.offset,0)) (by simp[results,Tryz.results71,go_sem,outV,s0,s1]) rfl ⟨rfl,(an.setCell (show w.heap.size<=w.heap.size+1 by omega) _).setCell (show w.heap.size<=w.heap.size+1 by omega) _⟩
       ·obtain rfl:g=1:=by omega
        rw[R1]at E
        have mm:=fun w=>jfn (n-p.offset) w
        clear R0 R1 R2
        cases hb:isB (n-p.offset) (-62135596800) 253402300799
        ·rw[jpm hb]at E
         subst E
         rw[hb]at mm
         clear hb
         obtain⟨s0,s1⟩:=ja4 (v0:=iv 0) (v1:=iv 4) q0 q1
         go_wp2_with fail
         refine(mm _).mono ?_
         rintro e w' ⟨rfl,rfl⟩
         go_wp2
         exact bpr (v:=outV (0,4)) (by simp[results,Tryz.results71,go_sem,outV,s0,s1]) rfl ⟨rfl,(an.setCell (show w.heap.size<=w.heap.size+1 by omega) _).setCell (show w.heap.size<=w.heap.size+1 by omega) _⟩
        ·rw[jpl hb]at E
         subst E
         rw[hb]at mm
         clear hb
         obtain⟨s0,s1⟩:=ja4 (v0:=iv (n-p.offset)) (v1:=iv 0) q0 q1
         go_wp2_with fail
         refine(mm _).mono ?_
         rintro e w' ⟨rfl,rfl⟩
         go_wp2
         exact bpr (v:=outV (n-p.offset,0)) (by simp[results,Tryz.results71,go_sem,outV,s0,s1]) rfl ⟨rfl,(an.setCell (show w.heap.size<=w.heap.size+1 by omega) _).setCell (show w.heap.size<=w.heap.size+1 by omega) _⟩
