/- Packed. -/
import Derived.Test.YtofdpfpdocpbpaaGreatDoorStrPd
import Derived.WalkMore
set_option maxRecDepth 100000
set_option maxHeartbeats 20000000
set_option linter.unusedSimpArgs false
namespace Go.Proofs.YtofdpfpdocpbpaaGreatDoor
section
open Go.RowKit Go.Shelf
attribute [local go_sem] Oper.semAt_some
def gapB(n:Int)(s:StrK):Bool:=decide (s.1.first+s.1.ahead<=n)&&decide (n<s.1.first+s.1.own)
theorem gapB_t{n:Int}{s:StrK}(h1:s.1.first+s.1.ahead<=n)(h2:n<s.1.first+s.1.own):gapB n s=true:=by simp[gapB,h1,h2]
theorem gapB_f1{n:Int}{s:StrK}(h1:¬s.1.first+s.1.ahead<=n):gapB n s=false:=by simp[gapB,h1]
theorem gapB_f2{n:Int}{s:StrK}(h2:¬n<s.1.first+s.1.own):gapB n s=false:=by simp[gapB,h2]
def gapD(l:List TurnD)(n:Int):Option StrK:=(jcm l l.length).find? (gapB n)
def gapS:Option StrK->StrD
 |some s=>s.1
 |none=>⟨0,0,0,0⟩
theorem js9(l:List TurnD)(k:Nat):∀d,∃bs,jcm l (k+d)=jcm l k++bs:=by
 intro d
 induction d with
 |zero=>exact⟨[],by simp⟩
 |succ d ih=>
  obtain⟨bs,h⟩:=ih
  exact⟨bs++[strK l (k+d)],by rw[<- Nat.add_assoc,uptoS_succ,h,List.append_assoc]⟩
theorem jxb{l:List TurnD}{k:Nat}{s:StrK}(h:s∈jcm l k):∃j,j<k/\s=strK l j:=by
 unfold jcm at h
 rw[List.mem_map]at h
 obtain⟨j,hj,rfl⟩:=h
 exact⟨j,List.mem_range.mp hj,rfl⟩
theorem jyg{l:List TurnD}{n:Int}{k:Nat}(hk:k<l.length)(h0:∀t∈jcm l k,gapB n t=false)(h1:gapB n (strK l k)=true):gapD l n=some (strK l k):=by
 unfold gapD
 rw[List.find?_eq_some_iff_append]
 obtain⟨bs,hb⟩:=js9 l (k+1) (l.length-(k+1))
 rw[show k+1+(l.length-(k+1))=l.length by omega,uptoS_succ,List.append_assoc]at hb
 exact⟨h1,jcm l k,bs,hb,fun a ha=>by rw[h0 a ha];rfl⟩
theorem jor{l:List TurnD}{n:Int}(h0:∀t∈jcm l l.length,gapB n t=false):gapD l n=none:=by
 unfold gapD
 rw[List.find?_eq_none]
 intro x hx
 rw[h0 x hx]
 simp
theorem jik{l:List TurnD}{k:Nat}{x:TurnD}(h:l[k]? =some x):(jpl l k).first=x.at_:=by unfold jpl;rw[h];rfl
theorem j2a{l:List TurnD}(hT:TabR l){n:Int}{k:Nat}(hk:k<l.length)(h0:∀t∈jcm l k,gapB n t=false)(h1:n<(strK l k).1.first-100000):gapD l n=none:=by
 refine jor fun t ht=>?_
 obtain⟨j,hj,rfl⟩:=jxb ht
 by_cases hjk:j<k
 ·exact h0 _ (by unfold jcm;rw[List.mem_map];exact⟨j,List.mem_range.mpr hjk,rfl⟩)
 ·have ok:=(strK l j).2
  unfold StrD.ok at ok
  simp only[Bool.and_eq_true]at ok
  have ha:=jbw ok.2.2.1
  refine gapB_f1 ?_
  obtain⟨x,hx⟩:=qgg hk
  obtain⟨y,hy⟩:=qgg hj
  have hu:=jpg hT.up (show k<=j by omega) hx hy
  rw[jlu hT hk,jik hx]at h1
  rw[jlu hT hj]at ha ⊢
  rw[jik hy]
  omega
structure StrIn(W:World)(B:Nat)(s:StrD):Prop where
 c0:W.cell? ⟨B,0,none⟩=some (.int .i64 s.first)
 c1:W.cell? ⟨B,1,none⟩=some (.int .i64 s.last)
 c2:W.cell? ⟨B,2,none⟩=some (.int .i64 s.ahead)
 c3:W.cell? ⟨B,3,none⟩=some (.int .i64 s.own)
theorem StrIn.kept{W W':World}{B:Nat}{s:StrD}{row:Option Nat}(h:StrIn W B s)(hg:W.grownBy W' row)(hr:∀r,row=some r->∃o:Obj,W.heap[r]? =some o/\o.isCells=false):StrIn W' B s:=
 ⟨cell_kept h.c0 hg hr,cell_kept h.c1 hg hr,cell_kept h.c2 hg hr,cell_kept h.c3 hg hr⟩
theorem jer{W:World}{B:Nat}{x0 x1 x2 x3:Int}(h:W.heap[B]? =some (.cells #[.int .i64 x0,.int .i64 x1,.int .i64 x2,.int .i64 x3] 310 (0,0))):StrIn W B ⟨x0,x1,x2,x3⟩/\∀i,W.frozen? ⟨B,i,none⟩=false:=
 ⟨⟨by simp[World.cell?,h],by simp[World.cell?,h],by simp[World.cell?,h],by simp[World.cell?,h]⟩,fun i=>by simp[World.frozen?,h]⟩
theorem jx8{W W':World}{row:Option Nat}{B:Nat}{cs:Array Value}{t:TypeId}(h:W.heap[B]? =some (.cells cs t (0,0)))(hg:W.grownBy W' row)(hr:∀r,row=some r->∃o:Obj,W.heap[r]? =some o/\o.isCells=false):W'.heap[B]? =some (.cells cs t (0,0)):=by
 refine(hg.block B (Array.getElem?_eq_some_iff.1 h).1 (fun e=>?_)).trans h
 obtain⟨o,ho,hc⟩:=hr B e.symm
 rw[h]at ho
 cases ho
 cases hc
theorem jlx{W:World}{B:Nat}{x y:StrD}(h:StrIn W B x):StrIn ((((W.setCell ⟨B,0,none⟩ (.int .i64 y.first)).setCell ⟨B,1,none⟩ (.int .i64 y.last)).setCell ⟨B,2,none⟩ (.int .i64 y.ahead)).setCell ⟨B,3,none⟩ (.int .i64 y.own)) B y:=by
 obtain⟨s0,s1,s2,s3⟩:=j0e (v0:=.int .i64 y.first) (v1:=.int .i64 y.last) (v2:=.int .i64 y.ahead) (v3:=.int .i64 y.own) h.c0 h.c1 h.c2 h.c3
 exact⟨s0,s1,s2,s3⟩
theorem jes(W:World)(B:Nat)(v0 v1 v2 v3:Value):KeepsOthers W ((((W.setCell ⟨B,0,none⟩ v0).setCell ⟨B,1,none⟩ v1).setCell ⟨B,2,none⟩ v2).setCell ⟨B,3,none⟩ v3):=
 (((KeepsOthers.setCell W _ v0).trans (KeepsOthers.setCell _ _ v1)).trans (KeepsOthers.setCell _ _ v2)).trans (KeepsOthers.setCell _ _ v3)
theorem jev{n₀:Nat}{A W:World}(h:Below n₀ A W)(B:Nat)(hB:n₀<=B)(v0 v1 v2 v3:Value):Below n₀ A ((((W.setCell ⟨B,0,none⟩ v0).setCell ⟨B,1,none⟩ v1).setCell ⟨B,2,none⟩ v2).setCell ⟨B,3,none⟩ v3):=
 (((h.setCell (p:=⟨B,0,none⟩) hB v0).setCell (p:=⟨B,1,none⟩) hB v1).setCell (p:=⟨B,2,none⟩) hB v2).setCell (p:=⟨B,3,none⟩) hB v3
def jjt(w wA:World)(s:StrD)(t:Bool)(W:World):Prop:=StrIn W (w.heap.size+1+1+1) s/\W.cell? ⟨w.heap.size+1+1+1+1,0,none⟩=some (.bool t)/\Below (w.heap.size+1+1+1) wA W
theorem jjs(w wA:World)(s:StrD)(t:Bool)(hs:wA.heap.size=w.heap.size+1+1+1)(B:Nat)(hB:w.heap.size+1+1+1<=B){β:Type}:OwnFrom B (fun(_:β) W=>jjt w wA s t W):=fun x X Y row hx hg hr=>
 ⟨hx.1.kept hg (fun r e=>(hr r e).2),cell_kept hx.2.1 hg (fun r e=>(hr r e).2),ownFrom_below (β:=β) (by omega) hB x X Y row hx.2.2 hg hr⟩
def jto(m:Int)(pre:List StrK):Prop:=∀t∈pre,gapB m t=false
theorem jk9{m:Int}{pre:List StrK}{s:StrK}(h:jto m pre)(hs:gapB m s=false):jto m (pre++[s]):=fun t ht=>(List.mem_append.1 ht).elim (h t) (fun e=>by rw[List.mem_singleton]at e;subst e;exact hs)
def jyf(m:Int)(w wA:World)(pre:List StrK)(W:World):Prop:=∃ini s,pre=ini++[s]/\jto m ini/\((m<s.1.first-100000/\jjt w wA ⟨0,0,0,0⟩ false W)\/(gapB m s=true/\jjt w wA s.1 true W))
theorem j19{m:Int}{w wA W:World}{pre:List StrK}{s:StrK}(h:jto m pre)(h1:m<s.1.first-100000)(h2:jjt w wA ⟨0,0,0,0⟩ false W):jyf m w wA (pre++[s]) W:=⟨pre,s,rfl,h,.inl ⟨h1,h2⟩⟩
theorem j18{m:Int}{w wA W:World}{pre:List StrK}{s:StrK}(h:jto m pre)(h1:gapB m s=true)(h2:jjt w wA s.1 true W):jyf m w wA (pre++[s]) W:=⟨pre,s,rfl,h,.inr ⟨h1,h2⟩⟩
theorem jt3(l:List TurnD)(v:Value)(m:Int)(hT:TabR l)(m1: -62135596800<=m)(m2:m<=253402300799)(w:World)(hv:Je w v l):
  Calls Tryz.prog 220 #[v,.int .i64 m] w fun e W'=>e=.returned (.tuple #[(gapS (gapD l m)).v,.bool (gapD l m).isSome])/\Below w.heap.size w W':=by
 refine(callsIn_wide (n:=3)).1 ?_
 have h1:1<=3:=by omega
 have hlen:=hT.len
 obtain⟨a,cap,rfl,hA⟩:=hv
 obtain⟨f,hf⟩:∃x,l[0]? =some x:=⟨_,List.getElem?_eq_getElem (by omega)⟩
 obtain⟨b,o,rfl,hd⟩:=hA.at (i:=0) (r:=f.cs) (by rw[List.getElem?_map,hf];rfl)
 have hbl:b<w.heap.size:=qbl (hd 0 _ rfl)
 clear hd hf
 have HS:=fun k (hk:k<l.length) (h0:∀t∈jcm l k,gapB m t=false) (h1:gapB m (strK l k)=true)=>jyg hk h0 h1
 have HN:=fun(h0:∀t∈jcm l l.length,gapB m t=false)=>jor h0
 have HC:=fun k (hk:k<l.length) (h0:∀t∈jcm l k,gapB m t=false) (h1:m<(strK l k).1.first-100000)=>j2a hT hk h0 h1
 generalize gapD l m=G at *
 refine callsIn_of_wp_marks Tryz.func220 rfl trivial ?_ rfl
 simp only[Tryz.ntmps220,List.size_toArray,List.length_cons,List.length_nil,Nat.reduceAdd,Nat.reduceSub,Array.replicate_succ,Array.replicate_zero,List.push_toArray,List.append_toArray,List.nil_append,List.cons_append]
 gi_wp2
 refine wpIn_wide.2 (wp_scope_straight ((wpIn_wide (n:=3)).1 ?_))
 gi_wp2
 apply wpIn_label
 gi_wp2_with (refine⟨trivial,?_⟩;gi_at_call 219;refine(jg6 Fence.wide 2 trivial rfl _ _ _ _).mono ?_;rintro e w' ⟨rfl,rfl⟩)
 obtain⟨wA,hwA⟩:∃wA,(((w.alloc (.cells #[.slice (some ⟨b,o,none⟩) l.length cap] 214)).alloc (.cells #[.int .i64 m] 2)).alloc (.cells #[.int .i64 0,.int .i64 0,.int .i64 0,.int .i64 0] 310))=wA:=⟨_,rfl⟩
 have hsA:wA.heap.size=w.heap.size+1+1+1:=by rw[<- hwA];simp
 have hBA:Below w.heap.size w wA:=by rw[<- hwA];exact((qal w _).alloc (by simp) _).alloc (by simp;omega) _
 have cM:wA.cell? ⟨w.heap.size+1,0,none⟩=some (.int .i64 m):=by rw[<- hwA];simp[go_sem]
 have hR:wA.heap[w.heap.size+1+1]? =some (.cells #[.int .i64 0,.int .i64 0,.int .i64 0,.int .i64 0] 310 (0,0)):=by
  rw[<- hwA]
  have:=World.alloc_heap_new ((w.alloc (.cells #[.slice (some ⟨b,o,none⟩) l.length cap] 214)).alloc (.cells #[.int .i64 m] 2)) (.cells #[.int .i64 0,.int .i64 0,.int .i64 0,.int .i64 0] 310)
  rw[World.size_alloc,World.size_alloc]at this
  exact this
 rw[hwA]
 obtain⟨wF,hwF⟩:∃wF,wA.alloc (.cells #[.int .i64 0,.int .i64 0,.int .i64 0,.int .i64 0] 310)=wF:=⟨_,rfl⟩
 have hF:wF.heap[w.heap.size+1+1+1]? =some (.cells #[.int .i64 0,.int .i64 0,.int .i64 0,.int .i64 0] 310 (0,0)):=by
  rw[<- hwF]
  have:=World.alloc_heap_new wA (.cells #[.int .i64 0,.int .i64 0,.int .i64 0,.int .i64 0] 310)
  rw[hsA]at this
  exact this
 have hsF:wF.heap.size=w.heap.size+1+1+1+1:=by rw[<- hwF];simp;omega
 have hBF:Below (w.heap.size+1+1+1) wA wF:=by rw[<- hwF];exact(Below.refl _ wA).alloc (by omega) _
 rw[hwF]
 have bH:=Boxed.new wF 4 (.bool false)
 have bN:=Boxed.new (wF.alloc (.cells #[.bool false] 4)) 214 (.slice (some ⟨b,o,none⟩) l.length cap)
 rw[World.size_alloc,hsF]at bN
 rw[hsF]at bH
 have hB0:Below (w.heap.size+1+1+1) wA ((wF.alloc (.cells #[.bool false] 4)).alloc (.cells #[.slice (some ⟨b,o,none⟩) l.length cap] 214)):=(hBF.alloc (by omega) _).alloc (by simp;omega) _
 have hF0:((wF.alloc (.cells #[.bool false] 4)).alloc (.cells #[.slice (some ⟨b,o,none⟩) l.length cap] 214)).heap[w.heap.size+1+1+1]? =some (.cells #[.int .i64 0,.int .i64 0,.int .i64 0,.int .i64 0] 310 (0,0)):=
  (Below.heap_alloc _ _ _ (by simp;omega)).trans ((Below.heap_alloc _ _ _ (by omega)).trans hF)
 have hA0:=hA.below (hBA.trans (hB0.mono (by omega)))
 refine wpIn_rangeFunc_ownH rfl h1 (gf:=258) (lb:=#[.pointer (some ⟨w.heap.size+1+1+1+1+1,0,none⟩)]) rfl trivial (enters_of Tryz.func258 (by kernel_rfl) rfl)
  (jm6 Fence.wide 2 trivial rfl (by omega) (w.heap.size+1+1+1+1+1) (w.heap.size+1+1+1) b o cap l hT (by omega) _ (by simp;omega) bN hA0) j9k (j9l (by simp;omega)) (Below.refl _ _) (fun _=>rfl)
  (fun pre W=>W.heap[w.heap.size+1+1+1]? =some (.cells #[.int .i64 0,.int .i64 0,.int .i64 0,.int .i64 0] 310 (0,0))/\Boxed W (w.heap.size+1+1+1+1) 4 (.bool false)/\Below (w.heap.size+1+1+1) wA W/\jto m pre)
  (fun c pre W=>c=.exit 0/\jyf m w wA pre W)
  (fun s X Y row hs hg hr=>⟨jx8 hs.1 hg (fun r e=>(hr r e).2),boxed_own _ _ (fun(_:Unit)=>.bool false) () X Y row hs.2.1 hg (fun r e=>(hr r e).2),ownFrom_below (β:=Unit) (by omega) (by simp;omega) () X Y row hs.2.2.1 hg hr,hs.2.2.2⟩)
  (fun c s X Y row hs hg hr=>by
   obtain⟨hc,ini,t,e1,e2,e3⟩:=hs
   refine⟨hc,ini,t,e1,e2,?_⟩
   rcases e3 with⟨e3,e4⟩|⟨e3,e4⟩
   ·exact .inl ⟨e3,jjs w wA _ _ hsA _ (by simp;omega) (β:=Unit) () X Y row e4 hg hr⟩
   ·exact .inr ⟨e3,jjs w wA _ _ hsA _ (by simp;omega) (β:=Unit) () X Y row e4 hg hr⟩)
  ⟨hF0,bH.alloc _,hB0,fun t ht=>by simp at ht⟩
  (fun x a' W=>∃Bx,W.heap[Bx]? =some (.cells #[.int .i64 x.1.first,.int .i64 x.1.last,.int .i64 x.1.ahead,.int .i64 x.1.own] 310 (0,0))/\w.heap.size+1+1+1+1<Bx/\a'={ tmps:=#[.agg #[.slice (some ⟨b,o,none⟩) l.length cap],.int .i64 m,.pointer (some ⟨w.heap.size,0,none⟩),.pointer (some ⟨w.heap.size+1,0,none⟩),.pointer (some ⟨w.heap.size+1+1,0,none⟩),.bool false,.pointer (some ⟨w.heap.size+1+1+1,0,none⟩),.pointer (some ⟨w.heap.size+1+1+1+1,0,none⟩),.pointer (some ⟨Bx,0,none⟩),.agg #[.slice (some ⟨b,o,none⟩) l.length cap],.func (.func 258) #[] #[.pointer (some ⟨w.heap.size+1+1+1+1+1,0,none⟩)],x.1.v,undef,undef,undef,undef,undef,undef,undef,undef,undef,undef,undef,undef,undef,undef,undef,undef,undef,undef,undef,undef,undef,undef,undef,undef,undef,undef],defers:=[] })
  (fun x a' _ X Y row hs hg hr=>by
   obtain⟨Bx,k1,k2,k3⟩:=hs
   exact⟨Bx,jx8 k1 hg (fun r e=>(hr r e).2),k2,k3⟩)
  ?assign ?body ?done ?stop
 case assign=>
  rintro q pre ⟨⟨x0,x1,x2,x3⟩,hx⟩ W K ⟨hH,hv,hB,hp⟩ hK
  simp only[StrD.v]at *
  have hlt:=hv.lt
  gi_wp2
  exact hK _ _ ((KeepsOthers.alloc _ _).from _) ⟨(Below.refl _ W).alloc (by have:=hB.size;omega) _,Zu.alloc _ _⟩ ⟨(Below.heap_alloc _ _ _ (by omega)).trans hH,hv.alloc _,hB.alloc (by have:=hB.size;omega) _,hp⟩ ⟨W.heap.size,World.alloc_heap_new W _,by omega,rfl⟩
 case body=>
  rintro q pre ⟨⟨x0,x1,x2,x3⟩,hx⟩ a' W hq ⟨r,hr⟩ ⟨hH,hv,hB,hp⟩ ⟨Bx,hBx,hbx,rfl⟩ hlt
  have gt:=@gapB_t m ⟨⟨x0,x1,x2,x3⟩,hx⟩
  have gf1:=@gapB_f1 m ⟨⟨x0,x1,x2,x3⟩,hx⟩
  have gf2:=@gapB_f2 m ⟨⟨x0,x1,x2,x3⟩,hx⟩
  have hc:=hv.cell
  have hcf:=hv.frozen
  have hsW:=hB.size
  have cM1:W.cell? ⟨w.heap.size+1,0,none⟩=some (.int .i64 m):=(hB.cell (p:=⟨w.heap.size+1,0,none⟩) (show w.heap.size+1<w.heap.size+1+1+1 by omega)).trans cM
  obtain⟨⟨e0,e1,e2,e3⟩,_⟩:=jer hBx
  obtain⟨hFI,hFf⟩:=jer hH
  obtain⟨f0,f1,f2,f3⟩:=hFI
  have ff0:=hFf 0
  have ff1:=hFf 1
  have ff2:=hFf 2
  have ff3:=hFf 3
  obtain⟨i1,i2,i3,i4⟩:(-62135596800<=x0/\x0<=253402300799)/\(-62135596801<=x1/\x1<=253402300799)/\(-100000<=x2/\x2<=100000)/\(-100000<=x3/\x3<=100000):=by
   have hx':=hx
   unfold StrD.ok at hx'
   simp only[Bool.and_eq_true]at hx'
   exact⟨jbw hx'.1,jbw hx'.2.1,jbw hx'.2.2.1,jbw hx'.2.2.2⟩
  obtain⟨i11,i12⟩:=i1
  obtain⟨i31,i32⟩:=i3
  obtain⟨i41,i42⟩:=i4
  simp only[StrD.v]at *
  have hK4:=jes W (w.heap.size+1+1+1) (.int .i64 x0) (.int .i64 x1) (.int .i64 x2) (.int .i64 x3)
  have hB4:=jev hB (w.heap.size+1+1+1) (by omega) (.int .i64 x0) (.int .i64 x1) (.int .i64 x2) (.int .i64 x3)
  obtain⟨s0,s1,s2,s3⟩:=jlx (x:=⟨0,0,0,0⟩) (y:=⟨x0,x1,x2,x3⟩) ⟨f0,f1,f2,f3⟩
  simp only at s0 s1 s2 s3
  have hne:w.heap.size+1+1+1+1≠w.heap.size+1+1+1:=by omega
  clear hq hr hFf
  by_cases g0:m<x0-100000
  ·clear gt gf1 gf2 hK4 hB4 s0 s1 s2 s3
   gi_wp2
   exact⟨KeepsFrom.refl _ _,rfl,j19 (s:=⟨⟨x0,x1,x2,x3⟩,hx⟩) hp g0 ⟨⟨f0,f1,f2,f3⟩,hc,hB⟩⟩
  ·by_cases g1:x0+x2<=m
   ·by_cases g2:m<x0+x3
    ·have ht:=gt g1 g2
     clear gt gf1 gf2
     gi_wp2
     refine⟨(hK4.trans (KeepsOthers.setCell _ _ _)).from _,rfl,j18 hp ht ⟨⟨?_,?_,?_,?_⟩,?_,hB4.setCell (p:=⟨w.heap.size+1+1+1+1,0,none⟩) (show w.heap.size+1+1+1<=w.heap.size+1+1+1+1 by omega) _⟩⟩
     ·rw[World.cell?_setCell_other _ _ _ _ (jdc (by omega))];exact s0
     ·rw[World.cell?_setCell_other _ _ _ _ (jdc (by omega))];exact s1
     ·rw[World.cell?_setCell_other _ _ _ _ (jdc (by omega))];exact s2
     ·rw[World.cell?_setCell_other _ _ _ _ (jdc (by omega))];exact s3
     ·refine World.cell?_setCell_same _ _ _ (u:=.bool false) ?_
      rw[World.cell?_setCell_other _ _ _ _ (jdc (by omega)),World.cell?_setCell_other _ _ _ _ (jdc (by omega)),World.cell?_setCell_other _ _ _ _ (jdc (by omega)),World.cell?_setCell_other _ _ _ _ (jdc (by omega))]
      exact hc
    ·have ht:=gf2 g2
     clear gt gf1 gf2 hK4 hB4 s0 s1 s2 s3
     gi_wp2
     exact⟨KeepsFrom.refl _ _,⟨Below.refl _ _,Zu.refl _⟩,hH,hv,hB,jk9 hp ht⟩
   ·have ht:=gf1 g1
    clear gt gf1 gf2 hK4 hB4 s0 s1 s2 s3
    gi_wp2
    exact⟨KeepsFrom.refl _ _,⟨Below.refl _ _,Zu.refl _⟩,hH,hv,hB,jk9 hp ht⟩
 case done=>
  rintro D ys W hD rfl ⟨hH,hv,hB,hp⟩ hK
  obtain rfl:=HN hp
  obtain⟨⟨f0,f1,f2,f3⟩,_⟩:=jer hH
  have hc:=hv.cell
  clear HS HN HC
  have hRW:=(hB.block (w.heap.size+1+1) (by omega)).trans hR
  obtain⟨⟨r0,r1,r2,r3⟩,hRf⟩:=jer hRW
  have rf0:=hRf 0
  have rf1:=hRf 1
  have rf2:=hRf 2
  have rf3:=hRf 3
  have hK4:=jes W (w.heap.size+1+1) (.int .i64 0) (.int .i64 0) (.int .i64 0) (.int .i64 0)
  have hB4:=jev (hBA.trans (hB.mono (by omega))) (w.heap.size+1+1) (by omega) (.int .i64 0) (.int .i64 0) (.int .i64 0) (.int .i64 0)
  obtain⟨s0,s1,s2,s3⟩:=jlx (x:=⟨0,0,0,0⟩) (y:=⟨0,0,0,0⟩) ⟨r0,r1,r2,r3⟩
  have hn1:w.heap.size+1+1+1≠w.heap.size+1+1:=by omega
  have hn2:w.heap.size+1+1+1+1≠w.heap.size+1+1:=by omega
  clear hRf hwA hwF
  simp only at r0 r1 r2 r3 s0 s1 s2 s3 f0 f1 f2 f3
  gi_wp2
  refine wpIn_wide.2 ?_
  go_region
  gi_wp2
  have hK':=(hK4.trans (KeepsOthers.drew _)).same D _ hK rfl
  obtain⟨WD,hWD⟩:∃WD,(((((W.setCell ⟨w.heap.size+1+1,0,none⟩ (.int .i64 0)).setCell ⟨w.heap.size+1+1,1,none⟩ (.int .i64 0)).setCell ⟨w.heap.size+1+1,2,none⟩ (.int .i64 0)).setCell ⟨w.heap.size+1+1,3,none⟩ (.int .i64 0)).drew)=WD:=⟨_,rfl⟩
  rw[<- cell_drew_own]at s0 s1 s2 s3
  rw[hWD]at s0 s1 s2 s3 hK' ⊢
  have hP:=grownBy_putObj' WD D (.deferred none)
  have hPr:∀r,some D=some r->∃o:Obj,WD.heap[r]? =some o/\o.isCells=false:=fun r e=>by cases e;exact⟨_,hK',rfl⟩
  have q0:=cell_kept (W:=WD) s0 hP hPr
  have q1:=cell_kept (W:=WD) s1 hP hPr
  have q2:=cell_kept (W:=WD) s2 hP hPr
  have q3:=cell_kept (W:=WD) s3 hP hPr
  refine⟨by simp,.inl ⟨_,_,rfl,run_takeDeferred hK',?_⟩⟩
  refine⟨.tuple #[.agg #[.int .i64 0,.int .i64 0,.int .i64 0,.int .i64 0],.bool false],?_,rfl,(hB4.trans (by rw[<- hWD];exact⟨rfl,rfl,rfl,Nat.le_refl _,fun _ _=>rfl⟩)).trans (belowK_b (w:=w) (Nat.le_refl _) _ D _ _ (by simp at hD;omega) hK' rfl rfl)⟩
  simp[results,Tryz.results220,go_sem,q0,q1,q2,q3]
 case stop=>
  rintro D c pre W hD ⟨k,hk,rfl⟩ ⟨rfl,ini,s,e1,e2,e3⟩ hK
  obtain⟨k',rfl⟩:∃k',k=k'+1:=by
   cases k with
   |zero=>simp[jcm]at e1
   |succ k'=>exact⟨k',rfl⟩
  rw[uptoS_succ]at e1
  obtain⟨rfl,e5⟩:=List.append_inj' e1 rfl
  have e5:strK l k'=s:=by simpa using e5
  rcases e3 with⟨e3,hFI,hc,hB⟩|⟨e3,hFI,hc,hB⟩
  ·obtain rfl:=HC k' (by omega) e2 (by rw[e5];exact e3)
   obtain⟨f0,f1,f2,f3⟩:=hFI
   clear HS HN HC e1 e2 e3 e5
   have hRW:=(hB.block (w.heap.size+1+1) (by omega)).trans hR
   obtain⟨⟨r0,r1,r2,r3⟩,hRf⟩:=jer hRW
   have rf0:=hRf 0
   have rf1:=hRf 1
   have rf2:=hRf 2
   have rf3:=hRf 3
   have hK4:=jes W (w.heap.size+1+1) (.int .i64 0) (.int .i64 0) (.int .i64 0) (.int .i64 0)
   have hB4:=jev (hBA.trans (hB.mono (by omega))) (w.heap.size+1+1) (by omega) (.int .i64 0) (.int .i64 0) (.int .i64 0) (.int .i64 0)
   obtain⟨s0,s1,s2,s3⟩:=jlx (x:=⟨0,0,0,0⟩) (y:=⟨0,0,0,0⟩) ⟨r0,r1,r2,r3⟩
   have hn1:w.heap.size+1+1+1≠w.heap.size+1+1:=by omega
   have hn2:w.heap.size+1+1+1+1≠w.heap.size+1+1:=by omega
   clear hRf hwA hwF
   simp only at r0 r1 r2 r3 s0 s1 s2 s3 f0 f1 f2 f3
   gi_wp2
   refine wpIn_wide.2 ?_
   go_region
   gi_wp2
   have hK':=(hK4.trans (KeepsOthers.drew _)).same D _ hK rfl
   obtain⟨WD,hWD⟩:∃WD,(((((W.setCell ⟨w.heap.size+1+1,0,none⟩ (.int .i64 0)).setCell ⟨w.heap.size+1+1,1,none⟩ (.int .i64 0)).setCell ⟨w.heap.size+1+1,2,none⟩ (.int .i64 0)).setCell ⟨w.heap.size+1+1,3,none⟩ (.int .i64 0)).drew)=WD:=⟨_,rfl⟩
   rw[<- cell_drew_own]at s0 s1 s2 s3
   rw[hWD]at s0 s1 s2 s3 hK' ⊢
   have hP:=grownBy_putObj' WD D (.deferred none)
   have hPr:∀r,some D=some r->∃o:Obj,WD.heap[r]? =some o/\o.isCells=false:=fun r e=>by cases e;exact⟨_,hK',rfl⟩
   have q0:=cell_kept (W:=WD) s0 hP hPr
   have q1:=cell_kept (W:=WD) s1 hP hPr
   have q2:=cell_kept (W:=WD) s2 hP hPr
   have q3:=cell_kept (W:=WD) s3 hP hPr
   refine⟨by simp,.inl ⟨_,_,rfl,run_takeDeferred hK',?_⟩⟩
   refine⟨.tuple #[.agg #[.int .i64 0,.int .i64 0,.int .i64 0,.int .i64 0],.bool false],?_,rfl,(hB4.trans (by rw[<- hWD];exact⟨rfl,rfl,rfl,Nat.le_refl _,fun _ _=>rfl⟩)).trans (belowK_b (w:=w) (Nat.le_refl _) _ D _ _ (by simp at hD;omega) hK' rfl rfl)⟩
   simp[results,Tryz.results220,go_sem,q0,q1,q2,q3]
  ·have hG:=HS k' (by omega) e2 (by rw[e5];exact e3)
   rw[e5]at hG
   obtain rfl:=hG
   clear HS HN HC e1 e2 e3 e5
   obtain⟨⟨y0,y1,y2,y3⟩,hy⟩:=s
   obtain⟨f0,f1,f2,f3⟩:=hFI
   have hRW:=(hB.block (w.heap.size+1+1) (by omega)).trans hR
   obtain⟨⟨r0,r1,r2,r3⟩,hRf⟩:=jer hRW
   have rf0:=hRf 0
   have rf1:=hRf 1
   have rf2:=hRf 2
   have rf3:=hRf 3
   have hK4:=jes W (w.heap.size+1+1) (.int .i64 y0) (.int .i64 y1) (.int .i64 y2) (.int .i64 y3)
   have hB4:=jev (hBA.trans (hB.mono (by omega))) (w.heap.size+1+1) (by omega) (.int .i64 y0) (.int .i64 y1) (.int .i64 y2) (.int .i64 y3)
   obtain⟨s0,s1,s2,s3⟩:=jlx (x:=⟨0,0,0,0⟩) (y:=⟨y0,y1,y2,y3⟩) ⟨r0,r1,r2,r3⟩
   have hn1:w.heap.size+1+1+1≠w.heap.size+1+1:=by omega
   have hn2:w.heap.size+1+1+1+1≠w.heap.size+1+1:=by omega
   clear hRf hwA hwF
   simp only at r0 r1 r2 r3 s0 s1 s2 s3 f0 f1 f2 f3
   gi_wp2
   refine wpIn_wide.2 ?_
   go_region
   gi_wp2
   have hK':=(hK4.trans (KeepsOthers.drew _)).same D _ hK rfl
   obtain⟨WD,hWD⟩:∃WD,(((((W.setCell ⟨w.heap.size+1+1,0,none⟩ (.int .i64 y0)).setCell ⟨w.heap.size+1+1,1,none⟩ (.int .i64 y1)).setCell ⟨w.heap.size+1+1,2,none⟩ (.int .i64 y2)).setCell ⟨w.heap.size+1+1,3,none⟩ (.int .i64 y3)).drew)=WD:=⟨_,rfl⟩
   rw[<- cell_drew_own]at s0 s1 s2 s3
   rw[hWD]at s0 s1 s2 s3 hK' ⊢
   have hP:=grownBy_putObj' WD D (.deferred none)
   have hPr:∀r,some D=some r->∃o:Obj,WD.heap[r]? =some o/\o.isCells=false:=fun r e=>by cases e;exact⟨_,hK',rfl⟩
   have q0:=cell_kept (W:=WD) s0 hP hPr
   have q1:=cell_kept (W:=WD) s1 hP hPr
   have q2:=cell_kept (W:=WD) s2 hP hPr
   have q3:=cell_kept (W:=WD) s3 hP hPr
   refine⟨by simp,.inl ⟨_,_,rfl,run_takeDeferred hK',?_⟩⟩
   refine⟨.tuple #[.agg #[.int .i64 y0,.int .i64 y1,.int .i64 y2,.int .i64 y3],.bool true],?_,rfl,(hB4.trans (by rw[<- hWD];exact⟨rfl,rfl,rfl,Nat.le_refl _,fun _ _=>rfl⟩)).trans (belowK_b (w:=w) (Nat.le_refl _) _ D _ _ (by simp at hD;omega) hK' rfl rfl)⟩
   simp[results,Tryz.results220,go_sem,q0,q1,q2,q3]
end
section
open Go.RowKit
def jjv(L:List Int)(f:Int):Int × Int:=if 1<L.length/\f=0 then(0,9)else(L[if f=2 then L.length-1 else 0]?.getD 0,0)
theorem foldD_no{L:List Int}{f:Int}(h1:1<L.length)(h2:f=0):jjv L f=(0,9):=by unfold jjv;rw[if_pos ⟨h1,h2⟩]
theorem foldD_last{L:List Int}{f:Int}(h2:f=2){x:Int}(hx:L[L.length-1]? =some x):jjv L f=(x,0):=by unfold jjv;rw[if_neg (by omega),if_pos h2,hx];rfl
theorem foldD_first{L:List Int}{f:Int}(h:¬(1<L.length/\f=0))(h2:f≠2){x:Int}(hx:L[0]? =some x):jjv L f=(x,0):=by unfold jjv;rw[if_neg h,if_neg h2,hx];rfl
def gapR(G:Option StrK)(n g:Int):Int × Int:=match G with
 |none=>(0,4)
 |some s=>if g=0 then(0,8)else if g=1 then jih (n-s.1.ahead)else jih (n-s.1.own)
def resR(l:List TurnD)(n g f:Int):Int × Int:=if (jhm l n).length=0 then gapR (gapD l n) n g else jjv (jhm l n) f
def resD(l:List TurnD)(n g f:Int):Int × Int:=if tabB l=true/\isB n (-62135596800) 253402300799=true/\isB g 0 2=true/\isB f 0 2=true then resR l n g f else(0,1)
theorem j0p{l:List TurnD}{n g f:Int}(h:tabB l=false):resD l n g f=(0,1):=by unfold resD;rw[if_neg (by rw[h];simp)]
theorem j0o{l:List TurnD}{n g f:Int}(h:isB n (-62135596800) 253402300799=false):resD l n g f=(0,1):=by unfold resD;rw[if_neg (by rw[h];simp)]
theorem j0n{l:List TurnD}{n g f:Int}(h:isB g 0 2=false):resD l n g f=(0,1):=by unfold resD;rw[if_neg (by rw[h];simp)]
theorem j0m{l:List TurnD}{n g f:Int}(h:isB f 0 2=false):resD l n g f=(0,1):=by unfold resD;rw[if_neg (by rw[h];simp)]
theorem j0l{l:List TurnD}{n g f:Int}(h1:tabB l=true)(h2:isB n (-62135596800) 253402300799=true)(h3:isB g 0 2=true)(h4:isB f 0 2=true):resD l n g f=resR l n g f:=by unfold resD;rw[if_pos ⟨h1,h2,h3,h4⟩]
theorem jbx(n:Int)(w:World):
  Calls Tryz.prog 82 #[.int .i64 n] w fun e w'=>e=.returned (.bool (isB n 0 2))/\w'=w:=by
 by_cases h:0<=n
 ·go_enter Tryz.func82,Tryz.ntmps82
  go_wp2
  go_ret
  exact⟨ret_bool (by unfold isB;simp[h]),rfl⟩
 ·go_enter Tryz.func82,Tryz.ntmps82
  go_wp2
  go_ret
  exact⟨ret_bool (jhl (by omega)).symm,rfl⟩
theorem j0k{w:World}{base:Nat}{v:Value}{L:List Int}{n:Nat}(hn:L.length=n+1)(h:w.ownsRow base 2 1 v L.length (L.map (Value.int .i64))):∃g cap,v=.slice (some ⟨g,0,none⟩) (n+1) cap/\g<w.heap.size/\base<=g/\∀i x,L[i]? =some x->w.cell? ⟨g,i,none⟩=some (.int .i64 x):=by
 rw[hn]at h
 obtain⟨g,cap,rfl⟩:=ownsRow_succ h
 have hg:=h.lt g rfl
 refine⟨g,cap,rfl,hg.2,hg.1,fun i x hx=>?_⟩
 have hi:=(List.getElem?_eq_some_iff.mp hx).1
 rw[h.cellAt i (by omega),List.getElem?_map,hx]
 rfl
theorem jgw(L:List Int)(v:Value)(f:Int)(w:World)(base:Nat)(hL:0<L.length)(hm:L.length<=600)(h:w.ownsRow base 2 1 v L.length (L.map (Value.int .i64))):
  Calls Tryz.prog 175 #[v,.int .i64 f] w fun e w'=>e=.returned (outV (jjv L f))/\Below w.heap.size w w':=by
 obtain⟨n,hn⟩:∃n,L.length=n+1:=⟨L.length-1,by omega⟩
 obtain⟨g,cap,rfl,hg,_,hc⟩:=j0k hn h
 obtain⟨x,hx⟩:∃x,L[0]? =some x:=⟨_,List.getElem?_eq_getElem (by omega)⟩
 obtain⟨y,hy⟩:∃y,L[n]? =some y:=⟨_,List.getElem?_eq_getElem (by omega)⟩
 have c0:=hc 0 x hx
 have c1:=hc n y hy
 have hB0:=fun o=>qal w o
 have F1:=fun h1 h2=>@foldD_no L f h1 h2
 have F2:=fun h2=>@foldD_last L f h2 y (by rw[hn];exact hy)
 have F3:=fun h1 h2=>@foldD_first L f h1 h2 x hx
 rw[hn]at F1 F3 hm
 generalize jjv L f=R at *
 have hne:g≠w.heap.size:=by omega
 clear hc hx hy h hn hL
 by_cases h1:0<n
 ·by_cases h2:f=0
  ·obtain rfl:=F1 (by omega) h2
   subst h2
   clear F1 F2 F3
   go_enter Tryz.func175,Tryz.ntmps175
   go_wp2
   exact bodyPost_ret (v:=outV (0,9)) (by simp[results,Tryz.results175,go_sem,outV]) rfl ⟨rfl,hB0 _⟩
  ·by_cases h3:f=2
   ·obtain rfl:=F2 h3
    subst h3
    clear F1 F2 F3
    go_enter Tryz.func175,Tryz.ntmps175
    go_wp2
    exact bodyPost_ret (v:=outV (y,0)) (by simp[results,Tryz.results175,go_sem,outV]) rfl ⟨rfl,hB0 _⟩
   ·obtain rfl:=F3 (by omega) h3
    have e1:(f==0)=false:=by simp[h2]
    have e2:(f==2)=false:=by simp[h3]
    clear F1 F2 F3
    go_enter Tryz.func175,Tryz.ntmps175
    go_wp2
    exact bodyPost_ret (v:=outV (x,0)) (by simp[results,Tryz.results175,go_sem,outV]) rfl ⟨rfl,hB0 _⟩
 ·obtain rfl:n=0:=by omega
  by_cases h3:f=2
  ·obtain rfl:=F2 h3
   subst h3
   clear F1 F2 F3 c0
   go_enter Tryz.func175,Tryz.ntmps175
   go_wp2
   exact bodyPost_ret (v:=outV (y,0)) (by simp[results,Tryz.results175,go_sem,outV]) rfl ⟨rfl,hB0 _⟩
  ·obtain rfl:=F3 (by omega) h3
   have e2:(f==2)=false:=by simp[h3]
   clear F1 F2 F3 c1
   go_enter Tryz.func175,Tryz.ntmps175
   go_wp2
   exact bodyPost_ret (v:=outV (x,0)) (by simp[results,Tryz.results175,go_sem,outV]) rfl ⟨rfl,hB0 _⟩
theorem jye(n g:Int):gapR none n g=(0,4):=rfl
theorem j81(s:StrK)(n:Int):gapR (some s) n 0=(0,8):=rfl
theorem j80(s:StrK)(n:Int):gapR (some s) n 1=jih (n-s.1.ahead):=rfl
theorem gapR_2(s:StrK){n g:Int}(h0:g≠0)(h1:g≠1):gapR (some s) n g=jih (n-s.1.own):=by unfold gapR;simp only;rw[if_neg h0,if_neg h1]
theorem j7x(s:StrK):(-100000<=s.1.ahead/\s.1.ahead<=100000)/\(-100000<=s.1.own/\s.1.own<=100000):=by
 have hx':=s.2
 unfold StrD.ok at hx'
 simp only[Bool.and_eq_true]at hx'
 exact⟨jbw hx'.2.2.1,jbw hx'.2.2.2⟩
theorem jhv(l:List TurnD)(v:Value)(m g:Int)(hT:TabR l)(m1: -62135596800<=m)(m2:m<=253402300799)(w:World)(hv:Je w v l):
  Calls Tryz.prog 174 #[v,.int .i64 m,.int .i64 g] w fun e w'=>e=.returned (outV (gapR (gapD l m) m g))/\Below w.heap.size w w':=by
 have hG:=fun v w h=>jt3 l v m hT m1 m2 w h
 generalize gapD l m=G at *
 obtain⟨a,cap,rfl,hA⟩:=hv
 have hv:Je w (.agg #[.slice a l.length cap]) l:=⟨a,cap,rfl,hA⟩
 have hB0:=fun o o2=>(qal w o).alloc (by simp) o2
 have KEEP:∀w1,Below ((w.alloc (.cells #[.slice a l.length cap] 214)).alloc (.cells #[.int .i64 0,.int .i64 0] 219)).heap.size ((w.alloc (.cells #[.slice a l.length cap] 214)).alloc (.cells #[.int .i64 0,.int .i64 0] 219)) w1->
   (w1.cell? ⟨w.heap.size+1,0,none⟩=some (.int .i64 0)/\w1.cell? ⟨w.heap.size+1,1,none⟩=some (.int .i64 0))/\(∀i,w1.frozen? ⟨w.heap.size+1,i,none⟩=false)/\w1.cell? ⟨w.heap.size,0,none⟩=some (.slice a l.length cap)/\Below w.heap.size w w1:=fun w1 hb1=>by
  obtain⟨hc1,hf1⟩:=jal hb1
  exact⟨⟨(hc1 _ _ (by simp)).trans (by simp[go_sem]),(hc1 _ _ (by simp)).trans (by simp[go_sem])⟩,fun i=>(hf1 _ _ (by simp)).trans (by simp[go_sem]),(hc1 _ _ (by simp;omega)).trans (by simp[go_sem]),(hB0 _ _).trans (hb1.mono (by simp;omega))⟩
 have KEEP2:∀(w1:World) (P:Int × Int) o,(w1.cell? ⟨w.heap.size+1,0,none⟩=some (.int .i64 0)/\w1.cell? ⟨w.heap.size+1,1,none⟩=some (.int .i64 0))->(∀i,w1.frozen? ⟨w.heap.size+1,i,none⟩=false)->Below w.heap.size w w1->∀w2,Below (w1.alloc o).heap.size (w1.alloc o) w2->(w2.cell? ⟨w.heap.size+1,0,none⟩=some (.int .i64 0)/\w2.cell? ⟨w.heap.size+1,1,none⟩=some (.int .i64 0))/\(w2.frozen? ⟨w.heap.size+1,0,none⟩=false/\w2.frozen? ⟨w.heap.size+1,1,none⟩=false)/\Below w.heap.size w w2:=fun w1 P o h1 h2 hB w2 hb2=>by
  have ha:Below w1.heap.size w1 w2:=(qal w1 o).trans (hb2.mono (by simp))
  obtain⟨hc1,hf1⟩:=jal ha
  have hlt:=qbl h1.1
  exact⟨⟨(hc1 _ _ hlt).trans h1.1,(hc1 _ _ hlt).trans h1.2⟩,⟨(hf1 _ _ hlt).trans (h2 0),(hf1 _ _ hlt).trans (h2 1)⟩,(qtr hB ha)⟩
 cases G with
 |none=>
  rw[jye]
  simp only[gapS,StrD.v,Option.isSome]at hG
  go_enter Tryz.func174,Tryz.ntmps174
  go_wp2_with fail
  refine(hG _ _ (hv.below (hB0 _ _))).mono ?_
  rintro e w1 ⟨rfl,hb1⟩
  obtain⟨⟨r0,r1⟩,f,t0,hB1⟩:=KEEP w1 hb1
  have f0:=f 0
  have f1:=f 1
  have hne:w.heap.size+1≠w1.heap.size:=by have:=qbl r0;simp at this;omega
  obtain⟨⟨q0,q1⟩,⟨g0,g1⟩,hBz⟩:=KEEP2 w1 (0,0) (.cells #[.int .i64 0,.int .i64 0,.int .i64 0,.int .i64 0] 310) ⟨r0,r1⟩ f hB1 _ (Below.refl _ _)
  obtain⟨s0,s1⟩:=jd1 (v0:=.int .i64 0) (v1:=.int .i64 4) q0 q1
  clear f KEEP KEEP2 hb1
  go_wp2
  exact bodyPost_ret (v:=outV (0,4)) (by simp[results,Tryz.results174,go_sem,outV,s0,s1]) rfl ⟨rfl,(hBz.setCell (show w.heap.size<=w.heap.size+1 by omega) _).setCell (show w.heap.size<=w.heap.size+1 by omega) _⟩
 |some s=>
  obtain⟨⟨a1,a2⟩,o1,o2⟩:=j7x s
  have R0:=j81 s m
  have R1:=j80 s m
  have R2:=fun h0 h1=>@gapR_2 s m g h0 h1
  simp only[gapS,StrD.v,Option.isSome]at hG
  obtain⟨⟨x0,x1,x2,x3⟩,hx⟩:=s
  simp only at hG a1 a2 o1 o2 R1 R2
  have hTA:=fun w=>jea (m-x2) w
  have hTO:=fun w=>jea (m-x3) w
  generalize jih (m-x2)=P1 at *
  generalize jih (m-x3)=P2 at *
  obtain⟨p1,p2⟩:=P1
  obtain⟨p3,p4⟩:=P2
  unfold outV at hTA hTO ⊢
  by_cases h0:g=0
  ·subst h0
   rw[R0]
   clear R0 R1 R2
   go_enter Tryz.func174,Tryz.ntmps174
   go_wp2_with fail
   refine(hG _ _ (hv.below (hB0 _ _))).mono ?_
   rintro e w1 ⟨rfl,hb1⟩
   obtain⟨⟨r0,r1⟩,f,t0,hB1⟩:=KEEP w1 hb1
   have f0:=f 0
   have f1:=f 1
   have hne:w.heap.size+1≠w1.heap.size:=by have:=qbl r0;simp at this;omega
   obtain⟨⟨q0,q1⟩,⟨g0,g1⟩,hBz⟩:=KEEP2 w1 (0,0) (.cells #[.int .i64 x0,.int .i64 x1,.int .i64 x2,.int .i64 x3] 310) ⟨r0,r1⟩ f hB1 _ (Below.refl _ _)
   obtain⟨s0,s1⟩:=jd1 (v0:=.int .i64 0) (v1:=.int .i64 8) q0 q1
   clear f KEEP KEEP2 hb1
   go_wp2
   exact bodyPost_ret (v:=outV (0,8)) (by simp[results,Tryz.results174,go_sem,outV,s0,s1]) rfl ⟨rfl,(hBz.setCell (show w.heap.size<=w.heap.size+1 by omega) _).setCell (show w.heap.size<=w.heap.size+1 by omega) _⟩
  ·have e0:(g==0)=false:=by simp[h0]
   by_cases h1:g=1
   ·subst h1
    rw[R1]
    clear R0 R1 R2 e0
    go_enter Tryz.func174,Tryz.ntmps174
    go_wp2_with fail
    refine(hG _ _ (hv.below (hB0 _ _))).mono ?_
    rintro e w1 ⟨rfl,hb1⟩
    obtain⟨⟨r0,r1⟩,f,t0,hB1⟩:=KEEP w1 hb1
    have KK:=KEEP2 w1 (0,0) (.cells #[.int .i64 x0,.int .i64 x1,.int .i64 x2,.int .i64 x3] 310) ⟨r0,r1⟩ f hB1
    clear f KEEP KEEP2 hb1
    go_wp2_with fail
    refine(hTA _).mono ?_
    rintro e w2 ⟨rfl,hb2⟩
    obtain⟨⟨q0,q1⟩,⟨g0,g1⟩,hBz⟩:=KK w2 hb2
    obtain⟨s0,s1⟩:=jd1 (v0:=.int .i64 p1) (v1:=.int .i64 p2) q0 q1
    clear KK hb2
    go_wp2
    exact bodyPost_ret (v:=.agg #[.int .i64 p1,.int .i64 p2]) (by simp[results,Tryz.results174,go_sem,s0,s1]) rfl ⟨rfl,(hBz.setCell (show w.heap.size<=w.heap.size+1 by omega) _).setCell (show w.heap.size<=w.heap.size+1 by omega) _⟩
   ·have e1:(g==1)=false:=by simp[h1]
    rw[R2 h0 h1]
    clear R0 R1 R2
    go_enter Tryz.func174,Tryz.ntmps174
    go_wp2_with fail
    refine(hG _ _ (hv.below (hB0 _ _))).mono ?_
    rintro e w1 ⟨rfl,hb1⟩
    obtain⟨⟨r0,r1⟩,f,t0,hB1⟩:=KEEP w1 hb1
    have KK:=KEEP2 w1 (0,0) (.cells #[.int .i64 x0,.int .i64 x1,.int .i64 x2,.int .i64 x3] 310) ⟨r0,r1⟩ f hB1
    clear f KEEP KEEP2 hb1
    go_wp2_with fail
    refine(hTO _).mono ?_
    rintro e w2 ⟨rfl,hb2⟩
    obtain⟨⟨q0,q1⟩,⟨g0,g1⟩,hBz⟩:=KK w2 hb2
    obtain⟨s0,s1⟩:=jd1 (v0:=.int .i64 p3) (v1:=.int .i64 p4) q0 q1
    clear KK hb2
    go_wp2
    exact bodyPost_ret (v:=.agg #[.int .i64 p3,.int .i64 p4]) (by simp[results,Tryz.results174,go_sem,s0,s1]) rfl ⟨rfl,(hBz.setCell (show w.heap.size<=w.heap.size+1 by omega) _).setCell (show w.heap.size<=w.heap.size+1 by omega) _⟩
end
section
open Go.RowKit
theorem jnb{w:World}{base:Nat}{e:TypeId}{size:Nat}{v:Value}{n:Nat}{xs:List Value}(h:w.ownsRow base e size v n xs):∃a c,v=.slice a n c:=by
 rcases h.2 with⟨rfl,rfl⟩|⟨g,cap,cur,rfl,_⟩
 ·exact⟨_,_,rfl⟩
 ·exact⟨_,_,rfl⟩
theorem j57(l:List TurnD)(n:Int):(jhm l n).length<=l.length:=by
 have:=jm9 n (jcm l l.length)
 rw[jg5]at this
 exact this
theorem resR_gap{l:List TurnD}{n g f:Int}(h:(jhm l n).length=0):resR l n g f=gapR (gapD l n) n g:=by unfold resR;rw[if_pos h]
theorem resR_fold{l:List TurnD}{n g f:Int}(h:(jhm l n).length≠0):resR l n g f=jjv (jhm l n) f:=by unfold resR;rw[if_neg h]
theorem joo(l:List TurnD)(v:Value)(n g f:Int)(w:World)(hv:Je w v l)(hok:∀r∈l,r.ok)(hl:l.length<=1048576):
  Calls Tryz.prog 131 #[v,.int .i64 n,.int .i64 g,.int .i64 f] w fun e w'=>e=.returned (outV (resD l n g f))/\Below w.heap.size w w':=by
 obtain⟨a,cap,rfl,hA⟩:=hv
 have hv:Je w (.agg #[.slice a l.length cap]) l:=⟨a,cap,rfl,hA⟩
 have hB0:=fun o o2=>(qal w o).alloc (by simp) o2
 have KEEP:∀w1,Below ((w.alloc (.cells #[.slice a l.length cap] 214)).alloc (.cells #[.int .i64 0,.int .i64 0] 219)).heap.size ((w.alloc (.cells #[.slice a l.length cap] 214)).alloc (.cells #[.int .i64 0,.int .i64 0] 219)) w1->
   (w1.cell? ⟨w.heap.size+1,0,none⟩=some (.int .i64 0)/\w1.cell? ⟨w.heap.size+1,1,none⟩=some (.int .i64 0))/\(∀i,w1.frozen? ⟨w.heap.size+1,i,none⟩=false)/\w1.cell? ⟨w.heap.size,0,none⟩=some (.slice a l.length cap)/\Below w.heap.size w w1:=fun w1 hb1=>by
  obtain⟨hc1,hf1⟩:=jal hb1
  exact⟨⟨(hc1 _ _ (by simp)).trans (by simp[go_sem]),(hc1 _ _ (by simp)).trans (by simp[go_sem])⟩,fun i=>(hf1 _ _ (by simp)).trans (by simp[go_sem]),(hc1 _ _ (by simp;omega)).trans (by simp[go_sem]),(hB0 _ _).trans (hb1.mono (by simp;omega))⟩
 have hM:=fun w=>jhf n w
 have hG:=fun w=>jbx g w
 have hF:=fun w=>jbx f w
 have hI:=fun w (h:Je w (.agg #[.slice a l.length cap]) l)=>jjo l _ w h hok hl
 cases hn:isB n (-62135596800) 253402300799
 ·rw[j0o hn]
  rw[hn]at hM
  clear hn hG hF hI
  go_enter Tryz.func131,Tryz.ntmps131
  go_wp2_with fail
  refine(hM _).mono ?_
  rintro e wM ⟨rfl,rfl⟩
  go_wp2
  exact bodyPost_ret (v:=outV (0,1)) (by simp[results,Tryz.results131,go_sem,outV]) rfl ⟨rfl,hB0 _ _⟩
 rw[hn]at hM
 cases hg:isB g 0 2
 ·rw[j0n hg]
  rw[hg]at hG
  clear hn hg hF hI
  go_enter Tryz.func131,Tryz.ntmps131
  go_wp2_with fail
  refine(hM _).mono ?_
  rintro e wM ⟨rfl,rfl⟩
  go_wp2_with fail
  refine(hG _).mono ?_
  rintro e wM ⟨rfl,rfl⟩
  go_wp2
  exact bodyPost_ret (v:=outV (0,1)) (by simp[results,Tryz.results131,go_sem,outV]) rfl ⟨rfl,hB0 _ _⟩
 rw[hg]at hG
 cases hf:isB f 0 2
 ·rw[j0m hf]
  rw[hf]at hF
  clear hn hg hf hI
  go_enter Tryz.func131,Tryz.ntmps131
  go_wp2_with fail
  refine(hM _).mono ?_
  rintro e wM ⟨rfl,rfl⟩
  go_wp2_with fail
  refine(hG _).mono ?_
  rintro e wM ⟨rfl,rfl⟩
  go_wp2_with fail
  refine(hF _).mono ?_
  rintro e wM ⟨rfl,rfl⟩
  go_wp2
  exact bodyPost_ret (v:=outV (0,1)) (by simp[results,Tryz.results131,go_sem,outV]) rfl ⟨rfl,hB0 _ _⟩
 rw[hf]at hF
 cases ht:tabB l
 ·rw[j0p ht]
  rw[ht]at hI
  clear hn hg hf ht
  go_enter Tryz.func131,Tryz.ntmps131
  go_wp2_with fail
  refine(hM _).mono ?_
  rintro e wM ⟨rfl,rfl⟩
  go_wp2_with fail
  refine(hG _).mono ?_
  rintro e wM ⟨rfl,rfl⟩
  go_wp2_with fail
  refine(hF _).mono ?_
  rintro e wM ⟨rfl,rfl⟩
  go_wp2_with fail
  refine(hI _ (hv.below (hB0 _ _))).mono ?_
  rintro e w1 ⟨rfl,hb1⟩
  obtain⟨⟨r0,r1⟩,fz,t0,hB1⟩:=KEEP w1 hb1
  have f0:=fz 0
  have f1:=fz 1
  obtain⟨s0,s1⟩:=jd1 (v0:=.int .i64 0) (v1:=.int .i64 1) r0 r1
  clear fz KEEP hb1
  go_wp2
  exact bodyPost_ret (v:=outV (0,1)) (by simp[results,Tryz.results131,go_sem,outV,s0,s1]) rfl ⟨rfl,(hB1.setCell (show w.heap.size<=w.heap.size+1 by omega) _).setCell (show w.heap.size<=w.heap.size+1 by omega) _⟩
 rw[j0l ht hn hg hf]
 rw[ht]at hI
 have hR:=j7w ht
 obtain⟨n1,n2⟩:=jbw hn
 have hlen:=hR.len
 have hil:=j57 l n
 have hS:=fun w (h:Je w (.agg #[.slice a l.length cap]) l)=>jn7 l _ n hR n1 n2 w h
 have hP:=fun w (h:Je w (.agg #[.slice a l.length cap]) l)=>jhv l _ n g hR n1 n2 w h
 have hD:=fun v w base h1 h2 h3=>jgw (jhm l n) v f w base h1 h2 h3
 have E1:=@resR_gap l n g f
 have E2:=@resR_fold l n g f
 clear hn hg hf ht
 generalize jhm l n=L at *
 generalize gapR (gapD l n) n g=Pg at *
 generalize jjv L f=Pf at *
 generalize resR l n g f=R at *
 by_cases hL:L.length=0
 ·obtain rfl:=E1 hL
  obtain⟨p1,p2⟩:=R
  rw[hL]at hS
  unfold outV at hP ⊢
  clear E1 E2 hD
  go_enter Tryz.func131,Tryz.ntmps131
  go_wp2_with fail
  refine(hM _).mono ?_
  rintro e wM ⟨rfl,rfl⟩
  go_wp2_with fail
  refine(hG _).mono ?_
  rintro e wM ⟨rfl,rfl⟩
  go_wp2_with fail
  refine(hF _).mono ?_
  rintro e wM ⟨rfl,rfl⟩
  go_wp2_with fail
  refine(hI _ (hv.below (hB0 _ _))).mono ?_
  rintro e w1 ⟨rfl,hb1⟩
  obtain⟨⟨r0,r1⟩,fz,t0,hB1⟩:=KEEP w1 hb1
  clear KEEP hb1
  go_wp2_with fail
  refine(hS _ (hv.below hB1)).mono ?_
  rintro e w2 ⟨v2,rfl,hrow,hb2⟩
  obtain⟨a2,c2,rfl⟩:=jnb hrow
  obtain⟨hc2,hf2⟩:=jal hb2
  have hB2:=qtr hB1 hb2
  have q0:=(hc2 _ _ (qbl r0)).trans r0
  have q1:=(hc2 _ _ (qbl r1)).trans r1
  have e0:=(hf2 _ _ (qbl r0)).trans (fz 0)
  have e1:=(hf2 _ _ (qbl r1)).trans (fz 1)
  have u0:=(hc2 _ _ (qbl t0)).trans t0
  clear hc2 hf2 hb2 hrow r0 r1 fz t0
  go_wp2_with fail
  refine(hP _ (hv.below hB2)).mono ?_
  rintro e w3 ⟨rfl,hb3⟩
  obtain⟨hc3,hf3⟩:=jal hb3
  have hB3:=qtr hB2 hb3
  have k0:=(hc3 _ _ (qbl q0)).trans q0
  have k1:=(hc3 _ _ (qbl q1)).trans q1
  have g0:=(hf3 _ _ (qbl q0)).trans e0
  have g1:=(hf3 _ _ (qbl q1)).trans e1
  obtain⟨s0,s1⟩:=jd1 (v0:=.int .i64 p1) (v1:=.int .i64 p2) k0 k1
  clear hc3 hf3 hb3 q0 q1 e0 e1 u0
  go_wp2
  exact bodyPost_ret (v:=.agg #[.int .i64 p1,.int .i64 p2]) (by simp[results,Tryz.results131,go_sem,s0,s1]) rfl ⟨rfl,(hB3.setCell (show w.heap.size<=w.heap.size+1 by omega) _).setCell (show w.heap.size<=w.heap.size+1 by omega) _⟩
 ·obtain rfl:=E2 hL
  obtain⟨p1,p2⟩:=R
  have hne:((L.length:Int)==0)=false:=beq_eq_false_iff_ne.mpr (by omega)
  unfold outV at hD ⊢
  clear E1 E2 hP
  go_enter Tryz.func131,Tryz.ntmps131
  go_wp2_with fail
  refine(hM _).mono ?_
  rintro e wM ⟨rfl,rfl⟩
  go_wp2_with fail
  refine(hG _).mono ?_
  rintro e wM ⟨rfl,rfl⟩
  go_wp2_with fail
  refine(hF _).mono ?_
  rintro e wM ⟨rfl,rfl⟩
  go_wp2_with fail
  refine(hI _ (hv.below (hB0 _ _))).mono ?_
  rintro e w1 ⟨rfl,hb1⟩
  obtain⟨⟨r0,r1⟩,fz,t0,hB1⟩:=KEEP w1 hb1
  clear KEEP hb1
  go_wp2_with fail
  refine(hS _ (hv.below hB1)).mono ?_
  rintro e w2 ⟨v2,rfl,hrow,hb2⟩
  have hD2:=hD _ _ _ (by omega) (by omega) hrow
  obtain⟨a2,c2,rfl⟩:=jnb hrow
  obtain⟨hc2,hf2⟩:=jal hb2
  have hB2:=qtr hB1 hb2
  have q0:=(hc2 _ _ (qbl r0)).trans r0
  have q1:=(hc2 _ _ (qbl r1)).trans r1
  have e0:=(hf2 _ _ (qbl r0)).trans (fz 0)
  have e1:=(hf2 _ _ (qbl r1)).trans (fz 1)
  clear hc2 hf2 hb2 hrow r0 r1 fz t0 hD
  go_wp2_with fail
  refine hD2.mono ?_
  rintro e w3 ⟨rfl,hb3⟩
  obtain⟨hc3,hf3⟩:=jal hb3
  have hB3:=qtr hB2 hb3
  have k0:=(hc3 _ _ (qbl q0)).trans q0
  have k1:=(hc3 _ _ (qbl q1)).trans q1
  have g0:=(hf3 _ _ (qbl q0)).trans e0
  have g1:=(hf3 _ _ (qbl q1)).trans e1
  obtain⟨s0,s1⟩:=jd1 (v0:=.int .i64 p1) (v1:=.int .i64 p2) k0 k1
  clear hc3 hf3 hb3 q0 q1 e0 e1
  go_wp2
  exact bodyPost_ret (v:=.agg #[.int .i64 p1,.int .i64 p2]) (by simp[results,Tryz.results131,go_sem,s0,s1]) rfl ⟨rfl,(hB3.setCell (show w.heap.size<=w.heap.size+1 by omega) _).setCell (show w.heap.size<=w.heap.size+1 by omega) _⟩
end
end Go.Proofs.YtofdpfpdocpbpaaGreatDoor
