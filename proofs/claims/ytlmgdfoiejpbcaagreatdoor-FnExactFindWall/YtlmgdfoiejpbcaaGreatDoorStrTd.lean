import Derived.Test.YtlmgdfoiejpbcaaGreatDoorStrQd
set_option maxRecDepth 20000
set_option maxHeartbeats 0
set_option linter.unusedSimpArgs false
open Go.RowKit
namespace Go.Proofs.YtlmgdfoiejpbcaaGreatDoor
def jhl(L:List Int)(f:Int):Int × Int:=if 1<L.length/\f=0 then(0,9)else(L[if f=2 then L.length-1 else 0]?.getD 0,0)
theorem foldD_no{L:List Int}{f:Int}(h1:1<L.length)(h2:f=0):jhl L f=(0,9):=by unfold jhl;rw[if_pos ⟨h1,h2⟩]
theorem foldD_last{L:List Int}{f:Int}(h2:f=2){x:Int}(hx:L[L.length-1]? =some x):jhl L f=(x,0):=by unfold jhl;rw[if_neg (by omega),if_pos h2,hx];rfl
theorem foldD_first{L:List Int}{f:Int}(h:¬(1<L.length/\f=0))(h2:f≠2){x:Int}(hx:L[0]? =some x):jhl L f=(x,0):=by unfold jhl;rw[if_neg h,if_neg h2,hx];rfl
def gapR(G:Option StrK)(n g:Int):Int × Int:=match G with
 |none=>(0,4)
 |some s=>if g=0 then(0,8)else if g=1 then jh0 (n-s.1.ahead)else jh0 (n-s.1.own)
def resR(l:List TurnD)(n g f:Int):Int × Int:=if (jdn l n).length=0 then gapR (gapD l n) n g else jhl (jdn l n) f
def resD(l:List TurnD)(n g f:Int):Int × Int:=if tabB l=true/\isB n (-62135596800) 253402300799=true/\isB g 0 2=true/\isB f 0 2=true then resR l n g f else(0,1)
theorem jyy{l:List TurnD}{n g f:Int}(h:tabB l=false):resD l n g f=(0,1):=by unfold resD;rw[if_neg (by rw[h];simp)]
theorem jyx{l:List TurnD}{n g f:Int}(h:isB n (-62135596800) 253402300799=false):resD l n g f=(0,1):=by unfold resD;rw[if_neg (by rw[h];simp)]
theorem jyw{l:List TurnD}{n g f:Int}(h:isB g 0 2=false):resD l n g f=(0,1):=by unfold resD;rw[if_neg (by rw[h];simp)]
theorem jyv{l:List TurnD}{n g f:Int}(h:isB f 0 2=false):resD l n g f=(0,1):=by unfold resD;rw[if_neg (by rw[h];simp)]
theorem jri{l:List TurnD}{n g f:Int}(h1:tabB l=true)(h2:isB n (-62135596800) 253402300799=true)(h3:isB g 0 2=true)(h4:isB f 0 2=true):resD l n g f=resR l n g f:=by unfold resD;rw[if_pos ⟨h1,h2,h3,h4⟩]
theorem jbw(n:Int)(w:World):
  Cl 132 #[iv n] w fun e w'=>e=.returned (.bool (isB n 0 2))/\w'=w:=by
 by_cases h:0<=n
 ·unfold Cl;go_in
  go_wp2
  go_ret
  exact⟨ret_bool (by unfold isB;simp[h]),rfl⟩
 ·unfold Cl;go_in
  go_wp2
  go_ret
  exact⟨ret_bool (jj8 (by omega)).symm,rfl⟩
theorem jfp{w:World}{base:Nat}{v:Value}{L:List Int}{n:Nat}(hn:L.length=n+1)(h:w.ownsRow base 2 1 v L.length (L.map (Value.int .i64))):∃g cap,v=so g (n+1) cap/\g<w.heap.size/\base<=g/\∀i x,L[i]? =some x->w.cell? (ad g i)=some (iv x):=by
 rw[hn]at h
 obtain⟨g,cap,rfl⟩:=ownsRow_succ h
 have hg:=h.lt g rfl
 refine⟨g,cap,rfl,hg.2,hg.1,fun i x hx=>?_⟩
 have hi:=(lgs hx).1
 rw[h.cellAt i (by omega),lgm,hx]
 rfl
theorem jge(L:List Int)(v:Value)(f:Int)(w:World)(base:Nat)(hL:0<L.length)(hm:L.length<=600)(h:w.ownsRow base 2 1 v L.length (L.map (Value.int .i64))):
  Cl 215 #[v,iv f] w fun e w'=>e=.returned (outV (jhl L f))/\Bw w w':=by
 obtain⟨n,hn⟩:∃n,L.length=n+1:=⟨L.length-1,by omega⟩
 obtain⟨g,cap,rfl,hg,_,hc⟩:=jfp hn h
 obtain⟨x,hx⟩:∃x,L[0]? =some x:=⟨_,lgg (by omega)⟩
 obtain⟨y,hy⟩:∃y,L[n]? =some y:=⟨_,lgg (by omega)⟩
 have c0:=hc 0 x hx
 have c1:=hc n y hy
 have ag:=fun o=>qal w o
 have F1:=fun h1 h2=>@foldD_no L f h1 h2
 have F2:=fun h2=>@foldD_last L f h2 y (by rw[hn];exact hy)
 have F3:=fun h1 h2=>@foldD_first L f h1 h2 x hx
 rw[hn]at F1 F3 hm
 generalize jhl L f=R at *
 have az:g≠w.heap.size:=by omega
 clear hc hx hy h hn hL
 by_cases h1:0<n
 ·by_cases h2:f=0
  ·obtain rfl:=F1 (by omega) h2
   subst h2
   clear F1 F2 F3
   unfold Cl;go_in
   go_wp2
   exact bpr (v:=outV (0,9)) (by simp[results,Tryz.results215,go_sem,outV]) rfl ⟨rfl,ag _⟩
  ·by_cases h3:f=2
   ·obtain rfl:=F2 h3
    subst h3
    clear F1 F2 F3
    unfold Cl;go_in
    go_wp2
    exact bpr (v:=outV (y,0)) (by simp[results,Tryz.results215,go_sem,outV]) rfl ⟨rfl,ag _⟩
   ·obtain rfl:=F3 (by omega) h3
    have e1:(f==0)=false:=by simp[h2]
    have e2:(f==2)=false:=by simp[h3]
    clear F1 F2 F3
    unfold Cl;go_in
    go_wp2
    exact bpr (v:=outV (x,0)) (by simp[results,Tryz.results215,go_sem,outV]) rfl ⟨rfl,ag _⟩
 ·obtain rfl:n=0:=by omega
  by_cases h3:f=2
  ·obtain rfl:=F2 h3
   subst h3
   clear F1 F2 F3 c0
   unfold Cl;go_in
   go_wp2
   exact bpr (v:=outV (y,0)) (by simp[results,Tryz.results215,go_sem,outV]) rfl ⟨rfl,ag _⟩
  ·obtain rfl:=F3 (by omega) h3
   have e2:(f==2)=false:=by simp[h3]
   clear F1 F2 F3 c1
   unfold Cl;go_in
   go_wp2
   exact bpr (v:=outV (x,0)) (by simp[results,Tryz.results215,go_sem,outV]) rfl ⟨rfl,ag _⟩
theorem jw4(n g:Int):gapR none n g=(0,4):=rfl
theorem j1b(s:StrK)(n:Int):gapR (some s) n 0=(0,8):=rfl
theorem j1a(s:StrK)(n:Int):gapR (some s) n 1=jh0 (n-s.1.ahead):=rfl
theorem gapR_2(s:StrK){n g:Int}(h0:g≠0)(h1:g≠1):gapR (some s) n g=jh0 (n-s.1.own):=by unfold gapR;simp only;rw[if_neg h0,if_neg h1]
theorem j25(s:StrK):(-100000<=s.1.ahead/\s.1.ahead<=100000)/\(-100000<=s.1.own/\s.1.own<=100000):=by
 have fm:=s.2
 unfold StrD.ok at fm
 simp only[bat]at fm
 exact⟨jax fm.2.2.1,jax fm.2.2.2⟩
theorem jhh(l:List TurnD)(v:Value)(m g:Int)(hT:Js l)(m1: -62135596800<=m)(m2:m<=253402300799)(w:World)(hv:Zy w v l):
  Cl 214 #[v,iv m,iv g] w fun e w'=>e=.returned (outV (gapR (gapD l m) m g))/\Bw w w':=by
 have hG:=fun v w h=>jtt l v m hT m1 m2 w h
 generalize gapD l m=G at *
 obtain⟨a,cap,rfl,hA⟩:=hv
 have hv:Zy w (.agg #[.slice a l.length cap]) l:=⟨a,cap,rfl,hA⟩
 have ag:=fun o o2=>(qal w o).alloc (by simp) o2
 have br:∀w1,Below ((w.alloc (.cells #[.slice a l.length cap] 180)).alloc (.cells #[iv 0,iv 0] 185)).heap.size ((w.alloc (.cells #[.slice a l.length cap] 180)).alloc (.cells #[iv 0,iv 0] 185)) w1->
   (w1.cell? (ad (w.heap.size+1) 0)=some (iv 0)/\w1.cell? (ad (w.heap.size+1) 1)=some (iv 0))/\(∀i,w1.frozen? (ad (w.heap.size+1) i)=false)/\w1.cell? (ad w.heap.size 0)=some (.slice a l.length cap)/\Bw w w1:=fun w1 hb1=>by
  obtain⟨aX,dg⟩:=jaf hb1
  exact⟨⟨(aX _ _ (by simp)).trans (by simp[go_sem]),(aX _ _ (by simp)).trans (by simp[go_sem])⟩,fun i=>(dg _ _ (by simp)).trans (by simp[go_sem]),(aX _ _ (by simp;omega)).trans (by simp[go_sem]),(ag _ _).trans (hb1.mono (by simp;omega))⟩
 have dM:∀(w1:World) (P:Int × Int) o,(w1.cell? (ad (w.heap.size+1) 0)=some (iv 0)/\w1.cell? (ad (w.heap.size+1) 1)=some (iv 0))->(∀i,w1.frozen? (ad (w.heap.size+1) i)=false)->Bw w w1->∀w2,Below (w1.alloc o).heap.size (w1.alloc o) w2->(w2.cell? (ad (w.heap.size+1) 0)=some (iv 0)/\w2.cell? (ad (w.heap.size+1) 1)=some (iv 0))/\(w2.frozen? (ad (w.heap.size+1) 0)=false/\w2.frozen? (ad (w.heap.size+1) 1)=false)/\Bw w w2:=fun w1 P o h1 h2 hB w2 ac=>by
  have ha:Bw w1 w2:=(qal w1 o).trans (ac.mono (by simp))
  obtain⟨aX,dg⟩:=jaf ha
  have hlt:=qbl h1.1
  exact⟨⟨(aX _ _ hlt).trans h1.1,(aX _ _ hlt).trans h1.2⟩,⟨(dg _ _ hlt).trans (h2 0),(dg _ _ hlt).trans (h2 1)⟩,(qtr hB ha)⟩
 cases G with
 |none=>
  rw[jw4]
  simp only[gapS,StrD.v,Option.isSome]at hG
  unfold Cl;go_in
  go_wp2_with fail
  refine(hG _ _ (hv.below (ag _ _))).mono ?_
  rintro e w1 ⟨rfl,hb1⟩
  obtain⟨⟨r0,r1⟩,f,t0,aj⟩:=br w1 hb1
  have f0:=f 0
  have f1:=f 1
  have az:w.heap.size+1≠w1.heap.size:=by have:=qbl r0;simp at this;omega
  obtain⟨⟨q0,q1⟩,⟨g0,g1⟩,dV⟩:=dM w1 (0,0) (.cells #[iv 0,iv 0,iv 0,iv 0] 304) ⟨r0,r1⟩ f aj _ (brf _ _)
  obtain⟨s0,s1⟩:=ja4 (v0:=iv 0) (v1:=iv 4) q0 q1
  clear f br dM hb1
  go_wp2
  exact bpr (v:=outV (0,4)) (by simp[results,Tryz.results214,go_sem,outV,s0,s1]) rfl ⟨rfl,(dV.setCell (show w.heap.size<=w.heap.size+1 by omega) _).setCell (show w.heap.size<=w.heap.size+1 by omega) _⟩
 |some s=>
  obtain⟨⟨a1,a2⟩,o1,o2⟩:=j25 s
  have R0:=j1b s m
  have R1:=j1a s m
  have R2:=fun h0 h1=>@gapR_2 s m g h0 h1
  simp only[gapS,StrD.v,Option.isSome]at hG
  obtain⟨⟨x0,x1,x2,x3⟩,hx⟩:=s
  simp only at hG a1 a2 o1 o2 R1 R2
  have Fy:=fun w=>jdu (m-x2) w
  have lA:=fun w=>jdu (m-x3) w
  generalize jh0 (m-x2)=P1 at *
  generalize jh0 (m-x3)=P2 at *
  obtain⟨p1,p2⟩:=P1
  obtain⟨p3,p4⟩:=P2
  unfold outV at Fy lA ⊢
  by_cases h0:g=0
  ·subst h0
   rw[R0]
   clear R0 R1 R2
   unfold Cl;go_in
   go_wp2_with fail
   refine(hG _ _ (hv.below (ag _ _))).mono ?_
   rintro e w1 ⟨rfl,hb1⟩
   obtain⟨⟨r0,r1⟩,f,t0,aj⟩:=br w1 hb1
   have f0:=f 0
   have f1:=f 1
   have az:w.heap.size+1≠w1.heap.size:=by have:=qbl r0;simp at this;omega
   obtain⟨⟨q0,q1⟩,⟨g0,g1⟩,dV⟩:=dM w1 (0,0) (.cells #[iv x0,iv x1,iv x2,iv x3] 304) ⟨r0,r1⟩ f aj _ (brf _ _)
   obtain⟨s0,s1⟩:=ja4 (v0:=iv 0) (v1:=iv 8) q0 q1
   clear f br dM hb1
   go_wp2
   exact bpr (v:=outV (0,8)) (by simp[results,Tryz.results214,go_sem,outV,s0,s1]) rfl ⟨rfl,(dV.setCell (show w.heap.size<=w.heap.size+1 by omega) _).setCell (show w.heap.size<=w.heap.size+1 by omega) _⟩
  ·have e0:(g==0)=false:=by simp[h0]
   by_cases h1:g=1
   ·subst h1
    rw[R1]
    clear R0 R1 R2 e0
    unfold Cl;go_in
    go_wp2_with fail
    refine(hG _ _ (hv.below (ag _ _))).mono ?_
    rintro e w1 ⟨rfl,hb1⟩
    obtain⟨⟨r0,r1⟩,f,t0,aj⟩:=br w1 hb1
    have KK:=dM w1 (0,0) (.cells #[iv x0,iv x1,iv x2,iv x3] 304) ⟨r0,r1⟩ f aj
    clear f br dM hb1
    go_wp2_with fail
    refine(Fy _).mono ?_
    rintro e w2 ⟨rfl,ac⟩
    obtain⟨⟨q0,q1⟩,⟨g0,g1⟩,dV⟩:=KK w2 ac
    obtain⟨s0,s1⟩:=ja4 (v0:=iv p1) (v1:=iv p2) q0 q1
    clear KK ac
    go_wp2
    exact bpr (v:=.agg #[iv p1,iv p2]) (by simp[results,Tryz.results214,go_sem,s0,s1]) rfl ⟨rfl,(dV.setCell (show w.heap.size<=w.heap.size+1 by omega) _).setCell (show w.heap.size<=w.heap.size+1 by omega) _⟩
   ·have e1:(g==1)=false:=by simp[h1]
    rw[R2 h0 h1]
    clear R0 R1 R2
    unfold Cl;go_in
    go_wp2_with fail
    refine(hG _ _ (hv.below (ag _ _))).mono ?_
    rintro e w1 ⟨rfl,hb1⟩
    obtain⟨⟨r0,r1⟩,f,t0,aj⟩:=br w1 hb1
    have KK:=dM w1 (0,0) (.cells #[iv x0,iv x1,iv x2,iv x3] 304) ⟨r0,r1⟩ f aj
    clear f br dM hb1
    go_wp2_with fail
    refine(lA _).mono ?_
    rintro e w2 ⟨rfl,ac⟩
    obtain⟨⟨q0,q1⟩,⟨g0,g1⟩,dV⟩:=KK w2 ac
    obtain⟨s0,s1⟩:=ja4 (v0:=iv p3) (v1:=iv p4) q0 q1
    clear KK ac
    go_wp2
    exact bpr (v:=.agg #[iv p3,iv p4]) (by simp[results,Tryz.results214,go_sem,s0,s1]) rfl ⟨rfl,(dV.setCell (show w.heap.size<=w.heap.size+1 by omega) _).setCell (show w.heap.size<=w.heap.size+1 by omega) _⟩
theorem jic{w:World}{base:Nat}{e:TypeId}{size:Nat}{v:Value}{n:Nat}{xs:List Value}(h:w.ownsRow base e size v n xs):∃a c,v=.slice a n c:=by
 rcases h.2 with⟨rfl,rfl⟩|⟨g,cap,cur,rfl,_⟩
 ·exact⟨_,_,rfl⟩
 ·exact⟨_,_,rfl⟩
theorem jwk(l:List TurnD)(n:Int):(jdn l n).length<=l.length:=by
 have:=jib n (jat l l.length)
 rw[jd0]at this
 exact this
theorem resR_gap{l:List TurnD}{n g f:Int}(h:(jdn l n).length=0):resR l n g f=gapR (gapD l n) n g:=by unfold resR;rw[if_pos h]
theorem resR_fold{l:List TurnD}{n g f:Int}(h:(jdn l n).length≠0):resR l n g f=jhl (jdn l n) f:=by unfold resR;rw[if_neg h]
theorem jos(l:List TurnD)(v:Value)(n g f:Int)(w:World)(hv:Zy w v l)(hok:∀r∈l,r.ok)(hl:l.length<=1048576):
  Cl 172 #[v,iv n,iv g,iv f] w fun e w'=>e=.returned (outV (resD l n g f))/\Bw w w':=by
 obtain⟨a,cap,rfl,hA⟩:=hv
 have hv:Zy w (.agg #[.slice a l.length cap]) l:=⟨a,cap,rfl,hA⟩
 have ag:=fun o o2=>(qal w o).alloc (by simp) o2
 have br:∀w1,Below ((w.alloc (.cells #[.slice a l.length cap] 180)).alloc (.cells #[iv 0,iv 0] 185)).heap.size ((w.alloc (.cells #[.slice a l.length cap] 180)).alloc (.cells #[iv 0,iv 0] 185)) w1->
   (w1.cell? (ad (w.heap.size+1) 0)=some (iv 0)/\w1.cell? (ad (w.heap.size+1) 1)=some (iv 0))/\(∀i,w1.frozen? (ad (w.heap.size+1) i)=false)/\w1.cell? (ad w.heap.size 0)=some (.slice a l.length cap)/\Bw w w1:=fun w1 hb1=>by
  obtain⟨aX,dg⟩:=jaf hb1
  exact⟨⟨(aX _ _ (by simp)).trans (by simp[go_sem]),(aX _ _ (by simp)).trans (by simp[go_sem])⟩,fun i=>(dg _ _ (by simp)).trans (by simp[go_sem]),(aX _ _ (by simp;omega)).trans (by simp[go_sem]),(ag _ _).trans (hb1.mono (by simp;omega))⟩
 have hM:=fun w=>jg0 n w
 have hG:=fun w=>jbw g w
 have hF:=fun w=>jbw f w
 have hI:=fun w (h:Zy w (.agg #[.slice a l.length cap]) l)=>jjh l _ w h hok hl
 cases hn:isB n (-62135596800) 253402300799
 ·rw[jyx hn]
  rw[hn]at hM
  clear hn hG hF hI
  unfold Cl;go_in
  go_wp2_with fail
  refine(hM _).mono ?_
  rintro e wM ⟨rfl,rfl⟩
  go_wp2
  exact bpr (v:=outV (0,1)) (by simp[results,Tryz.results172,go_sem,outV]) rfl ⟨rfl,ag _ _⟩
 rw[hn]at hM
 cases hg:isB g 0 2
 ·rw[jyw hg]
  rw[hg]at hG
  clear hn hg hF hI
  unfold Cl;go_in
  go_wp2_with fail
  refine(hM _).mono ?_
  rintro e wM ⟨rfl,rfl⟩
  go_wp2_with fail
  refine(hG _).mono ?_
  rintro e wM ⟨rfl,rfl⟩
  go_wp2
  exact bpr (v:=outV (0,1)) (by simp[results,Tryz.results172,go_sem,outV]) rfl ⟨rfl,ag _ _⟩
 rw[hg]at hG
 cases hf:isB f 0 2
 ·rw[jyv hf]
  rw[hf]at hF
  clear hn hg hf hI
  unfold Cl;go_in
  go_wp2_with fail
  refine(hM _).mono ?_
  rintro e wM ⟨rfl,rfl⟩
  go_wp2_with fail
  refine(hG _).mono ?_
  rintro e wM ⟨rfl,rfl⟩
  go_wp2_with fail
  refine(hF _).mono ?_
  rintro e wM ⟨rfl,rfl⟩
  go_wp2
  exact bpr (v:=outV (0,1)) (by simp[results,Tryz.results172,go_sem,outV]) rfl ⟨rfl,ag _ _⟩
 rw[hf]at hF
 cases ht:tabB l
 ·rw[jyy ht]
  rw[ht]at hI
  clear hn hg hf ht
  unfold Cl;go_in
  go_wp2_with fail
  refine(hM _).mono ?_
  rintro e wM ⟨rfl,rfl⟩
  go_wp2_with fail
  refine(hG _).mono ?_
  rintro e wM ⟨rfl,rfl⟩
  go_wp2_with fail
  refine(hF _).mono ?_
  rintro e wM ⟨rfl,rfl⟩
  go_wp2_with fail
  refine(hI _ (hv.below (ag _ _))).mono ?_
  rintro e w1 ⟨rfl,hb1⟩
  obtain⟨⟨r0,r1⟩,fz,t0,aj⟩:=br w1 hb1
  have f0:=fz 0
  have f1:=fz 1
  obtain⟨s0,s1⟩:=ja4 (v0:=iv 0) (v1:=iv 1) r0 r1
  clear fz br hb1
  go_wp2
  exact bpr (v:=outV (0,1)) (by simp[results,Tryz.results172,go_sem,outV,s0,s1]) rfl ⟨rfl,(aj.setCell (show w.heap.size<=w.heap.size+1 by omega) _).setCell (show w.heap.size<=w.heap.size+1 by omega) _⟩
 rw[jri ht hn hg hf]
 rw[ht]at hI
 have hR:=j0x ht
 obtain⟨n1,n2⟩:=jax hn
 have au:=hR.len
 have i7:=jwk l n
 have hS:=fun w (h:Zy w (.agg #[.slice a l.length cap]) l)=>joj l _ n hR n1 n2 w h
 have hP:=fun w (h:Zy w (.agg #[.slice a l.length cap]) l)=>jhh l _ n g hR n1 n2 w h
 have hD:=fun v w base h1 h2 h3=>jge (jdn l n) v f w base h1 h2 h3
 have E1:=@resR_gap l n g f
 have E2:=@resR_fold l n g f
 clear hn hg hf ht
 generalize jdn l n=L at *
 generalize gapR (gapD l n) n g=Pg at *
 generalize jhl L f=Pf at *
 generalize resR l n g f=R at *
 by_cases hL:L.length=0
 ·obtain rfl:=E1 hL
  obtain⟨p1,p2⟩:=R
  rw[hL]at hS
  unfold outV at hP ⊢
  clear E1 E2 hD
  unfold Cl;go_in
  go_wp2_with fail
  refine(hM _).mono ?_
  rintro e wM ⟨rfl,rfl⟩
  go_wp2_with fail
  refine(hG _).mono ?_
  rintro e wM ⟨rfl,rfl⟩
  go_wp2_with fail
  refine(hF _).mono ?_
  rintro e wM ⟨rfl,rfl⟩
  go_wp2_with fail
  refine(hI _ (hv.below (ag _ _))).mono ?_
  rintro e w1 ⟨rfl,hb1⟩
  obtain⟨⟨r0,r1⟩,fz,t0,aj⟩:=br w1 hb1
  clear br hb1
  go_wp2_with fail
  refine(hS _ (hv.below aj)).mono ?_
  rintro e w2 ⟨v2,rfl,ap,ac⟩
  obtain⟨a2,c2,rfl⟩:=jic ap
  obtain⟨cU,eE⟩:=jaf ac
  have an:=qtr aj ac
  have q0:=(cU _ _ (qbl r0)).trans r0
  have q1:=(cU _ _ (qbl r1)).trans r1
  have e0:=(eE _ _ (qbl r0)).trans (fz 0)
  have e1:=(eE _ _ (qbl r1)).trans (fz 1)
  have u0:=(cU _ _ (qbl t0)).trans t0
  clear cU eE ac ap r0 r1 fz t0
  go_wp2_with fail
  refine(hP _ (hv.below an)).mono ?_
  rintro e w3 ⟨rfl,ar⟩
  obtain⟨fw,gE⟩:=jaf ar
  have ax:=qtr an ar
  have k0:=(fw _ _ (qbl q0)).trans q0
  have k1:=(fw _ _ (qbl q1)).trans q1
  have g0:=(gE _ _ (qbl q0)).trans e0
  have g1:=(gE _ _ (qbl q1)).trans e1
  obtain⟨s0,s1⟩:=ja4 (v0:=iv p1) (v1:=iv p2) k0 k1
  clear fw gE ar q0 q1 e0 e1 u0
  go_wp2
  exact bpr (v:=.agg #[iv p1,iv p2]) (by simp[results,Tryz.results172,go_sem,s0,s1]) rfl ⟨rfl,(ax.setCell (show w.heap.size<=w.heap.size+1 by omega) _).setCell (show w.heap.size<=w.heap.size+1 by omega) _⟩
 ·obtain rfl:=E2 hL
  obtain⟨p1,p2⟩:=R
  have az:((L.length:Int)==0)=false:=beq_eq_false_iff_ne.mpr (by omega)
  unfold outV at hD ⊢
  clear E1 E2 hP
  unfold Cl;go_in
  go_wp2_with fail
  refine(hM _).mono ?_
  rintro e wM ⟨rfl,rfl⟩
  go_wp2_with fail
  refine(hG _).mono ?_
  rintro e wM ⟨rfl,rfl⟩
  go_wp2_with fail
  refine(hF _).mono ?_
  rintro e wM ⟨rfl,rfl⟩
  go_wp2_with fail
  refine(hI _ (hv.below (ag _ _))).mono ?_
  rintro e w1 ⟨rfl,hb1⟩
  obtain⟨⟨r0,r1⟩,fz,t0,aj⟩:=br w1 hb1
  clear br hb1
  go_wp2_with fail
  refine(hS _ (hv.below aj)).mono ?_
  rintro e w2 ⟨v2,rfl,ap,ac⟩
  have sd:=hD _ _ _ (by omega) (by omega) ap
  obtain⟨a2,c2,rfl⟩:=jic ap
  obtain⟨cU,eE⟩:=jaf ac
  have an:=qtr aj ac
  have q0:=(cU _ _ (qbl r0)).trans r0
  have q1:=(cU _ _ (qbl r1)).trans r1
  have e0:=(eE _ _ (qbl r0)).trans (fz 0)
  have e1:=(eE _ _ (qbl r1)).trans (fz 1)
  clear cU eE ac ap r0 r1 fz t0 hD
  go_wp2_with fail
  refine sd.mono ?_
  rintro e w3 ⟨rfl,ar⟩
  obtain⟨fw,gE⟩:=jaf ar
  have ax:=qtr an ar
  have k0:=(fw _ _ (qbl q0)).trans q0
  have k1:=(fw _ _ (qbl q1)).trans q1
  have g0:=(gE _ _ (qbl q0)).trans e0
  have g1:=(gE _ _ (qbl q1)).trans e1
  obtain⟨s0,s1⟩:=ja4 (v0:=iv p1) (v1:=iv p2) k0 k1
  clear fw gE ar q0 q1 e0 e1
  go_wp2
  exact bpr (v:=.agg #[iv p1,iv p2]) (by simp[results,Tryz.results172,go_sem,s0,s1]) rfl ⟨rfl,(ax.setCell (show w.heap.size<=w.heap.size+1 by omega) _).setCell (show w.heap.size<=w.heap.size+1 by omega) _⟩
theorem jw3(l:List TurnD)(n:Int)(hT:Js l):jik n (jat l 1):=by
 intro t ht
 obtain⟨j,hj,rfl⟩:=jnp ht
 obtain rfl:j=0:=by omega
 have:=hT.len
 unfold gapB
 rw[jdg hT (by omega)]
 unfold jh3
 simp only[Nat.zero_sub]
 cases h:decide ((l[0]?.getD jmw).at_+(l[0]?.getD jmw).offset<=n)
 ·rfl
 ·rw[Bool.true_and]
  exact dfe (by have:=odt h;omega)
theorem jh6(l:List TurnD)(v:Value)(n g f:Int)(w:World)(hv:Zy w v l)(hR:Js l)(n1: -62135596800<=n)(n2:n<=253402300799)(g1:0<=g)(g2:g<=2)(_f1:0<=f)(_f2:f<=2):
  Cl 119 #[v,iv n,iv g,iv f] w fun e w'=>e=.returned (outV (resR l n g f))/\Bw w w':=by
 obtain⟨a,cap,rfl,hA⟩:=hv
 have hv:Zy w (.agg #[.slice a l.length cap]) l:=⟨a,cap,rfl,hA⟩
 have ag:=fun o o2=>(qal w o).alloc (by simp) o2
 have br:∀w1,Below ((w.alloc (.cells #[.slice a l.length cap] 180)).alloc (.cells #[iv 0,iv 0] 185)).heap.size ((w.alloc (.cells #[.slice a l.length cap] 180)).alloc (.cells #[iv 0,iv 0] 185)) w1->
   (w1.cell? (ad (w.heap.size+1) 0)=some (iv 0)/\w1.cell? (ad (w.heap.size+1) 1)=some (iv 0))/\(∀i,w1.frozen? (ad (w.heap.size+1) i)=false)/\w1.cell? (ad w.heap.size 0)=some (.slice a l.length cap)/\Bw w w1:=fun w1 hb1=>by
  obtain⟨aX,dg⟩:=jaf hb1
  exact⟨⟨(aX _ _ (by simp)).trans (by simp[go_sem]),(aX _ _ (by simp)).trans (by simp[go_sem])⟩,fun i=>(dg _ _ (by simp)).trans (by simp[go_sem]),(aX _ _ (by simp;omega)).trans (by simp[go_sem]),(ag _ _).trans (hb1.mono (by simp;omega))⟩
 have au:=hR.len
 have i7:=jwk l n
 have hS:=fun w (h:Zy w (.agg #[.slice a l.length cap]) l)=>jg8 l _ n hR n1 n2 w h
 have E1:=@resR_gap l n g f
 have E2:=@resR_fold l n g f
 have F1:=fun h1 h2=>@foldD_no (jdn l n) f h1 h2
 have F2:=fun h2 x hx=>@foldD_last (jdn l n) f h2 x hx
 have F3:=fun h1 h2 x hx=>@foldD_first (jdn l n) f h1 h2 x hx
 generalize jdn l n=L at *
 generalize jhl L f=Pf at *
 generalize resR l n g f=R at *
 by_cases hL:L.length=0
 case neg=>
  obtain rfl:=E2 hL
  obtain⟨m,hm⟩:∃m,L.length=m+1:=⟨L.length-1,by omega⟩
  obtain⟨x,hx⟩:∃x,L[0]? =some x:=⟨_,lgg (by omega)⟩
  obtain⟨y,hy⟩:∃y,L[m]? =some y:=⟨_,lgg (by omega)⟩
  clear E1 E2 hL
  by_cases h1:0<m
  ·by_cases h2:f=0
   ·obtain rfl:=F1 (by omega) h2
    subst h2
    clear F1 F2 F3
    unfold Cl;go_in
    go_wp2_with fail
    refine(hS _ (hv.below (ag _ _))).mono ?_
    rintro e w2 ⟨v2,rfl,ap,ac⟩
    obtain⟨g2,c2,rfl,_,_,_⟩:=jfp hm ap
    obtain⟨⟨q0,q1⟩,fz,t0,an⟩:=br w2 ac
    have e0:=fz 0
    have e1:=fz 1
    clear fz br ac ap
    obtain⟨s0,s1⟩:=ja4 (v0:=iv (0)) (v1:=iv 9) q0 q1
    go_wp2
    exact bpr (v:=outV (0,9)) (by simp[results,Tryz.results119,go_sem,outV,s0,s1]) rfl ⟨rfl,(an.setCell (show w.heap.size<=w.heap.size+1 by omega) _).setCell (show w.heap.size<=w.heap.size+1 by omega) _⟩
   ·by_cases h3:f=2
    ·obtain rfl:=F2 h3 y (by rw[hm];exact hy)
     subst h3
     clear F1 F2 F3
     unfold Cl;go_in
     go_wp2_with fail
     refine(hS _ (hv.below (ag _ _))).mono ?_
     rintro e w2 ⟨v2,rfl,ap,ac⟩
     obtain⟨g2,c2,rfl,_,_,fx⟩:=jfp hm ap
     have cy:=fx m y hy
     clear fx
     obtain⟨⟨q0,q1⟩,fz,t0,an⟩:=br w2 ac
     have e0:=fz 0
     have e1:=fz 1
     clear fz br ac ap
     obtain⟨s0,s1⟩:=ja4 (v0:=iv (y)) (v1:=iv 0) q0 q1
     go_wp2
     exact bpr (v:=outV (y,0)) (by simp[results,Tryz.results119,go_sem,outV,s0,s1]) rfl ⟨rfl,(an.setCell (show w.heap.size<=w.heap.size+1 by omega) _).setCell (show w.heap.size<=w.heap.size+1 by omega) _⟩
    ·obtain rfl:=F3 (by omega) h3 x hx
     have e2:(f==0)=false:=by simp[h2]
     have e3:(f==2)=false:=by simp[h3]
     clear F1 F2 F3
     unfold Cl;go_in
     go_wp2_with fail
     refine(hS _ (hv.below (ag _ _))).mono ?_
     rintro e w2 ⟨v2,rfl,ap,ac⟩
     obtain⟨g2,c2,rfl,_,_,fx⟩:=jfp hm ap
     have cx:=fx 0 x hx
     clear fx
     obtain⟨⟨q0,q1⟩,fz,t0,an⟩:=br w2 ac
     have e0:=fz 0
     have e1:=fz 1
     clear fz br ac ap
     obtain⟨s0,s1⟩:=ja4 (v0:=iv (x)) (v1:=iv 0) q0 q1
     go_wp2
     exact bpr (v:=outV (x,0)) (by simp[results,Tryz.results119,go_sem,outV,s0,s1]) rfl ⟨rfl,(an.setCell (show w.heap.size<=w.heap.size+1 by omega) _).setCell (show w.heap.size<=w.heap.size+1 by omega) _⟩
  ·obtain rfl:m=0:=by omega
   have hF:R=(x,0):=by
    by_cases h3:f=2
    ·exact F2 h3 x (by rw[hm];exact hx)
    ·exact F3 (by omega) h3 x hx
   subst hF
   clear F1 F2 F3 hy
   unfold Cl;go_in
   go_wp2_with fail
   refine(hS _ (hv.below (ag _ _))).mono ?_
   rintro e w2 ⟨v2,rfl,ap,ac⟩
   obtain⟨g2,c2,rfl,_,_,fx⟩:=jfp hm ap
   have cx:=fx 0 x hx
   clear fx
   obtain⟨⟨q0,q1⟩,fz,t0,an⟩:=br w2 ac
   have e0:=fz 0
   have e1:=fz 1
   clear fz br ac ap
   obtain⟨s0,s1⟩:=ja4 (v0:=iv (x)) (v1:=iv 0) q0 q1
   go_wp2
   exact bpr (v:=outV (x,0)) (by simp[results,Tryz.results119,go_sem,outV,s0,s1]) rfl ⟨rfl,(an.setCell (show w.heap.size<=w.heap.size+1 by omega) _).setCell (show w.heap.size<=w.heap.size+1 by omega) _⟩
 case pos=>
  have E:=E1 hL
  clear E1 E2 F1 F2 F3
  have HS:Hid (∀k,k<l.length->jik n (jat l k)->gapB n (strK l k)=true->R=gapR (some (strK l k)) n g):=fun k hk h0 h1=>by rw[E,jow hk h0 h1]
  have HN:Hid (jik n (jat l l.length)->R=(0,4)):=fun h0=>by rw[E,jjl h0];rfl
  clear E
  rw[hL]at hS
  have aT:∀(wr:World),Bw w wr->∀(k:Nat) (x:TurnD),l[k]? =some x->∃b o,a=some (ad b o)/\wr.cell? (ad b (o+k*4))=some (iv x.at_)/\wr.cell? (ad b (o+k*4+1))=some (iv x.offset):=fun wr hB k x hx=>by
   obtain⟨b',o',he,hc⟩:=(hA.below hB).at (i:=k) (r:=x.cs) (by rw[lgm,hx];rfl)
   exact⟨b',o',he,hc 0 _ rfl,hc 1 _ rfl⟩
  unfold Cl;go_in
  go_wp2_with fail
  refine(hS _ (hv.below (ag _ _))).mono ?_
  rintro e w2 ⟨v2,rfl,ap,ac⟩
  obtain⟨a2,c2,rfl⟩:=jic ap
  obtain⟨⟨q0,q1⟩,fz,t0,an⟩:=br w2 ac
  have e0:=fz 0
  have e1:=fz 1
  clear fz br ac ap
  go_wp2
  go_loopw [10] (fun s wr=>∃k:Nat,1<=k/\k<=l.length/\s=iv k/\jik n (jat l k)/\wr=w2) (fun s _=>l.length-(intOf s).toNat)
  case atStart=>exact⟨1,by omega,by omega,rfl,jw3 l n hR,rfl⟩
  case round=>
   obtain⟨k,hk1,hk,rfl,lF,hw⟩:=hrel
   have hw:=hw.symm
   subst hw
   by_cases hlt:k<l.length
   case neg=>
    obtain rfl:k=l.length:=by omega
    obtain rfl:=HN.out lF
    obtain⟨s0,s1⟩:=ja4 (v0:=iv (0)) (v1:=iv 4) q0 q1
    go_wp2
    exact bpr (v:=outV (0,4)) (by simp[results,Tryz.results119,go_sem,outV,s0,s1]) rfl ⟨rfl,(an.setCell (show w.heap.size<=w.heap.size+1 by omega) _).setCell (show w.heap.size<=w.heap.size+1 by omega) _⟩
   case pos=>
    obtain⟨j,rfl⟩:∃j,k=j+1:=⟨k-1,by omega⟩
    obtain⟨x,hx⟩:∃x,l[j+1]? =some x:=⟨_,lgg hlt⟩
    obtain⟨p,hp⟩:∃x,l[j]? =some x:=⟨_,lgg (by omega)⟩
    obtain⟨b,o,ha,c0,c1⟩:=aT _ an (j+1) x hx
    obtain⟨b',o',jF,d0,d1⟩:=aT _ an j p hp
    rw[ha]at jF
    injection jF with jF
    injection jF with u1 u2
    subst u1 u2 ha
    obtain⟨z1,z2⟩:=jax (jnl hR (lmg hx))
    obtain⟨z3,z4⟩:=jax (jnl hR (lmg hp))
    have z5:=jpe hR hx
    have z6:=hR.top _ x hx
    have HV:Hid ((strK l (j+1)).1.first=x.at_/\(strK l (j+1)).1.ahead=p.offset/\(strK l (j+1)).1.own=x.offset):=by
     simp only[Hid];rw[jdg hR hlt];unfold jh3;rw[Nat.add_sub_cancel,hx,hp];exact⟨rfl,rfl,rfl⟩
    have lO:Hid (gapB n (strK l (j+1))=false->jik n (jat l (j+1+1))):=fun h=>by rw[uptoS_succ];exact jf7 lF h
    have HG:Hid (gapB n (strK l (j+1))=true->R=gapR (some (strK l (j+1))) n g):=fun h=>HS.out (j+1) hlt lF h
    clear hx hp aT HS HN d0
    by_cases h1:x.at_+p.offset<=n
    case neg=>
     have gK:=lO.out (gapB_f1 (by rw[HV.out.1,HV.out.2.1];exact h1))
     clear lO HG HV
     go_wp2
     go_roundw
     case rel=>exact⟨j+1+1,by omega,by omega,by go_num,gK,trivial⟩
     case measure=>simp[intOf];omega
    case pos=>
     by_cases h2:n<x.at_+x.offset
     case neg=>
      have gK:=lO.out (gapB_f2 (by rw[HV.out.1,HV.out.2.2];exact h2))
      clear lO HG HV
      go_wp2
      go_roundw
      case rel=>exact⟨j+1+1,by omega,by omega,by go_num,gK,trivial⟩
      case measure=>simp[intOf];omega
     case pos=>
      have E:=HG.out (gapB_t (by rw[HV.out.1,HV.out.2.1];exact h1) (by rw[HV.out.1,HV.out.2.2];exact h2))
      have R0:=j1b (strK l (j+1)) n
      have R1:=j1a (strK l (j+1)) n
      have R2:=fun h0 h1=>@gapR_2 (strK l (j+1)) n g h0 h1
      rw[HV.out.2.1]at R1
      rw[HV.out.2.2]at R2
      clear lO HG HV lF
      by_cases h0:g=0
      ·subst h0
       rw[R0]at E
       subst E
       clear R0 R1 R2
       obtain⟨s0,s1⟩:=ja4 (v0:=iv (0)) (v1:=iv 8) q0 q1
       go_wp2
       exact bpr (v:=outV (0,8)) (by simp[results,Tryz.results119,go_sem,outV,s0,s1]) rfl ⟨rfl,(an.setCell (show w.heap.size<=w.heap.size+1 by omega) _).setCell (show w.heap.size<=w.heap.size+1 by omega) _⟩
      ·have e2:(g==0)=false:=by simp[h0]
       by_cases h3:g=2
       ·subst h3
        rw[R2 (by omega) (by omega)]at E
        have mm:=fun w=>jfn (n-x.offset) w
        clear R0 R1 R2
        cases hb:isB (n-x.offset) (-62135596800) 253402300799
        ·rw[jpm hb]at E
         subst E
         rw[hb]at mm
         clear hb
         obtain⟨s0,s1⟩:=ja4 (v0:=iv 0) (v1:=iv 4) q0 q1
         go_wp2_with fail
         refine(mm _).mono ?_
         rintro e w' ⟨rfl,rfl⟩
         go_wp2
         exact bpr (v:=outV (0,4)) (by simp[results,Tryz.results119,go_sem,outV,s0,s1]) rfl ⟨rfl,(an.setCell (show w.heap.size<=w.heap.size+1 by omega) _).setCell (show w.heap.size<=w.heap.size+1 by omega) _⟩
        ·rw[jpl hb]at E
         subst E
         rw[hb]at mm
         clear hb
         obtain⟨s0,s1⟩:=ja4 (v0:=iv (n-x.offset)) (v1:=iv 0) q0 q1
         go_wp2_with fail
         refine(mm _).mono ?_
         rintro e w' ⟨rfl,rfl⟩
         go_wp2
         exact bpr (v:=outV (n-x.offset,0)) (by simp[results,Tryz.results119,go_sem,outV,s0,s1]) rfl ⟨rfl,(an.setCell (show w.heap.size<=w.heap.size+1 by omega) _).setCell (show w.heap.size<=w.heap.size+1 by omega) _⟩
       ·obtain rfl:g=1:=by omega
        rw[R1]at E
        have mm:=fun w=>jfn (n-p.offset) w
        clear R0 R1 R2
        cases hb:isB (n-p.offset) (-62135596800) 253402300799
        ·rw[jpm hb]at E
         subst E
         rw[hb]at mm
         clear hb
         obtain⟨s0,s1⟩:=ja4 (v0:=iv 0) (v1:=iv 4) q0 q1
         go_wp2_with fail
         refine(mm _).mono ?_
         rintro e w' ⟨rfl,rfl⟩
         go_wp2
         exact bpr (v:=outV (0,4)) (by simp[results,Tryz.results119,go_sem,outV,s0,s1]) rfl ⟨rfl,(an.setCell (show w.heap.size<=w.heap.size+1 by omega) _).setCell (show w.heap.size<=w.heap.size+1 by omega) _⟩
        ·rw[jpl hb]at E
         subst E
         rw[hb]at mm
         clear hb
         obtain⟨s0,s1⟩:=ja4 (v0:=iv (n-p.offset)) (v1:=iv 0) q0 q1
         go_wp2_with fail
         refine(mm _).mono ?_
         rintro e w' ⟨rfl,rfl⟩
         go_wp2
         exact bpr (v:=outV (n-p.offset,0)) (by simp[results,Tryz.results119,go_sem,outV,s0,s1]) rfl ⟨rfl,(an.setCell (show w.heap.size<=w.heap.size+1 by omega) _).setCell (show w.heap.size<=w.heap.size+1 by omega) _⟩
