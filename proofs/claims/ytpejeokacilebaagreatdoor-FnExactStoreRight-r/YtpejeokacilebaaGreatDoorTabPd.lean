import Derived.Test.YtpejeokacilebaaGreatDoorRelPd
import Derived.Laws.EntriesVeiled
import Derived.Deep.RegionHeld3
set_option maxHeartbeats 0
set_option linter.unusedSimpArgs false
open Go.RowKit Go.Sort
namespace Go.Proofs.YtpejeokacilebaaGreatDoor
def Zy(w:World)(v:Value)(l:List TurnD):Prop:=∃a cap,v=.agg #[.slice a l.length cap]/\Za w a 4 (l.map TurnD.cs)
theorem Zy.below{w w':World}{v:Value}{l:List TurnD}(h:Zy w v l)(hb:Bw w w'):Zy w' v l:=by
 obtain⟨a,cap,rfl,hA⟩:=h
 exact⟨a,cap,rfl,hA.below hb⟩
theorem jc2{p q i j:Nat}(h:p≠q):((ad p i):Addr)≠(ad q j):=fun e=>by injection e with e1;exact h e1
def jb8(t:TurnD):Bool:=isB t.offset (-100000) 100000&&(isB t.save (-7200) 7200&&decide (t.abbr.size<=20))
theorem turn_no1{t:TurnD}(h:isB t.offset (-100000) 100000=false):jb8 t=false:=by unfold jb8;rw[h];rfl
theorem turn_no2{t:TurnD}(h:isB t.save (-7200) 7200=false):jb8 t=false:=by unfold jb8;rw[h];simp
theorem turn_no3{t:TurnD}(h:¬t.abbr.size<=20):jb8 t=false:=by unfold jb8;rw[dfe h];simp
theorem turn_yes{t:TurnD}(h1:isB t.offset (-100000) 100000=true)(h2:isB t.save (-7200) 7200=true)(h3:t.abbr.size<=20):jb8 t=true:=by unfold jb8;rw[h1,h2,dte h3];rfl
def upT:List TurnD->Bool
 |[]=>true
 |[_]=>true
 |x::y::l=>decide (x.at_<y.at_)&&upT (y::l)
theorem j0w{es:List TurnD}:∀{i:Nat} {x y:TurnD},es[i]? =some x->es[i+1]? =some y->¬x.at_<y.at_->upT es=false:=by
 induction es with
 |nil=>intro i x y h;simp at h
 | cons a l ih=>
  intro i x y hx hy hn
  match l,i with
  |[],_=>simp at hy
  |b::l,0=>
   simp at hx hy
   subst hx hy
   simp[upT,hn]
  |b::l,i+1=>
   have:=ih (i:=i) (x:=x) (y:=y) (by simpa using hx) (by simpa using hy) hn
   simp only[upT,this,Bool.and_false]
theorem jut{es:List TurnD}(h:∀i x y,es[i]? =some x->es[i+1]? =some y->x.at_<y.at_):upT es=true:=by
 induction es with
 |nil=>rfl
 | cons a l ih=>
  match l with
  |[]=>rfl
  |b::l=>
   have h0:=h 0 a b rfl rfl
   have:=ih fun i x y hx hy=>h (i+1) x y (by simpa using hx) (by simpa using hy)
   simp only[upT,this,dte h0,Bool.and_true]
theorem j21{es:List TurnD}(h:upT es=true){i:Nat}{x y:TurnD}(hx:es[i]? =some x)(hy:es[i+1]? =some y):x.at_<y.at_:=by
 by_cases hn:x.at_<y.at_
 ·exact hn
 ·rw[j0w hx hy hn]at h;cases h
theorem j22{es:List TurnD}(h:upT es=true){i:Nat}{x:TurnD}(hx:es[i]? =some x):∀(d:Nat) {y:TurnD},es[i+d]? =some y->x.at_<=y.at_:=by
 intro d
 induction d with
 |zero=>intro y hy;rw[Nat.add_zero,hx]at hy;obtain rfl:=osi hy;exact Int.le_refl _
 |succ d ih=>
  intro y hy
  have hlt:=(lgs hy).1
  obtain⟨z,hz⟩:∃z,es[i+d]? =some z:=⟨_,lgg (by omega)⟩
  have h1:=ih hz
  have h2:=j21 h hz (y:=y) (by rw[show i+d+1=i+(d+1) by omega];exact hy)
  omega
theorem jpk{es:List TurnD}(h:upT es=true){i j:Nat}(eF:i<=j){x y:TurnD}(hx:es[i]? =some x)(hy:es[j]? =some y):x.at_<=y.at_:=
 j22 h hx (j-i) (by rw[show i+(j-i)=j by omega];exact hy)
def jo7(l:List TurnD):Bool:=match l[0]?,l[l.length-1]? with
 |some a,some b=>(a.at_== -62135596800)&&decide (b.at_<=253402300799)
 |_,_=>false
def tabB(l:List TurnD):Bool:=decide (1<=l.length/\l.length<=600)&&(l.all jb8&&(upT l&&jo7 l))
theorem juz{l:List TurnD}(h:¬(1<=l.length/\l.length<=600)):tabB l=false:=by unfold tabB;rw[dfe h];rfl
theorem j1o{l:List TurnD}(h:l.all jb8=false):tabB l=false:=by unfold tabB;rw[h];simp
theorem juy{l:List TurnD}(h:upT l=false):tabB l=false:=by unfold tabB;rw[h];simp
theorem jux{l:List TurnD}(h:jo7 l=false):tabB l=false:=by unfold tabB;rw[h];simp
theorem jre{l:List TurnD}(h1:1<=l.length/\l.length<=600)(h2:l.all jb8=true)(h3:upT l=true):tabB l=jo7 l:=by unfold tabB;rw[dte h1,h2,h3];simp
theorem jxi{l:List TurnD}{n:Nat}{a b:TurnD}(hn:l.length=n+1)(ha:l[0]? =some a)(hb:l[n]? =some b):jo7 l=((a.at_== -62135596800)&&decide (b.at_<=253402300799)):=by
 unfold jo7
 rw[show l.length-1=n by omega,ha,hb]
theorem ju0{l:List TurnD}{a:TurnD}(ha:l[0]? =some a)(h:a.at_≠ -62135596800):tabB l=false:=by
 apply jux
 unfold jo7
 rw[ha]
 cases l[l.length-1]? with
 |none=>rfl
 |some b=>simp[h]
theorem j1m{l:List TurnD}{k:Nat}{x:TurnD}(hx:l[k]? =some x)(h:253402300799<x.at_):tabB l=false:=by
 cases hu:upT l
 ·exact juy hu
 ·apply jux
  have hk:=(lgs hx).1
  obtain⟨b,hb⟩:∃b,l[l.length-1]? =some b:=⟨_,lgg (by omega)⟩
  have:=jpk hu (show k<=l.length-1 by omega) hx hb
  unfold jo7
  rw[hb]
  cases l[0]? with
  |none=>rfl
  |some a=>simp;omega
structure Js(l:List TurnD):Prop where
 len:1<=l.length/\l.length<=600
 up:upT l=true
 first:∀a,l[0]? =some a->a.at_= -62135596800
 top:∀(k:Nat) x,l[k]? =some x->x.at_<=253402300799
 one:∀x∈l,jb8 x=true
theorem j0x{l:List TurnD}(h:tabB l=true):Js l:=by
 have hh:=h
 unfold tabB at h
 simp only[bat,decide_eq_true_eq,List.all_eq_true]at h
 obtain⟨h1,h2,h3,h4⟩:=h
 refine⟨h1,h3,fun a ha=>?_,fun k x hx=>?_,h2⟩
 ·by_cases e:a.at_= -62135596800
  ·exact e
  ·rw[ju0 ha e]at hh;cases hh
 ·by_cases e:x.at_<=253402300799
  ·exact e
  ·rw[j1m hx (by omega)]at hh;cases hh
theorem ji5(n:Int)(w:World):
  Cl 136 #[iv n] w fun e w'=>e=.returned (.bool (isB n (-7200) 7200))/\w'=w:=by
 by_cases h: -7200<=n
 ·unfold Cl;go_in
  go_wp2
  go_ret
  exact⟨ret_bool (by unfold isB;simp[h]),rfl⟩
 ·unfold Cl;go_in
  go_wp2
  go_ret
  exact⟨ret_bool (jj8 (by omega)).symm,rfl⟩
theorem jka(t:TurnD)(w:World)(ok:t.ok):
  Cl 210 #[t.v] w fun e w'=>e=.returned (.bool (jb8 t))/\Bw w w':=by
 obtain⟨at_,offset,save,abbr⟩:=t
 unfold TurnD.ok maxLen at ok
 have hS:=fun w=>ji5 save w
 have N1:=@turn_no1 ⟨at_,offset,save,abbr⟩
 have N2:=@turn_no2 ⟨at_,offset,save,abbr⟩
 have N3:=@turn_no3 ⟨at_,offset,save,abbr⟩
 have Y:=@turn_yes ⟨at_,offset,save,abbr⟩
 generalize jb8 ⟨at_,offset,save,abbr⟩=b at *
 simp only[TurnD.v]at *
 by_cases h1: -100000<=offset
 ·by_cases h2:offset<=100000
  ·have AK:=jma h1 h2
   cases h3:isB save (-7200) 7200
   ·have HR:Hid (b=false):=N2 h3
    rw[h3]at hS
    clear N1 N2 N3 Y AK h3
    unfold Cl;go_in
    go_wp2_with (go_at_call 136;refine(hS _).mono ?_;rintro e w' ⟨rfl,rfl⟩)
    go_ret
    exact⟨ret_bool HR.out.symm,qal _ _⟩
   ·rw[h3]at hS
    have HR:Hid (b=decide (abbr.size<=20)):=by
     by_cases h4:abbr.size<=20
     ·exact(Y AK h3 h4).trans (dte h4).symm
     ·exact(N3 h4).trans (dfe h4).symm
    clear N1 N2 N3 Y AK h3
    unfold Cl;go_in
    go_wp2_with (go_at_call 136;refine(hS _).mono ?_;rintro e w' ⟨rfl,rfl⟩)
    go_ret
    exact⟨ret_bool (by rw[HR.out];simp;omega),qal _ _⟩
  ·have HR:Hid (b=false):=N1 (jj8 (by simp;omega))
   clear N1 N2 N3 Y
   unfold Cl;go_in
   go_wp2_with (go_at_call 136;refine(hS _).mono ?_;rintro e w' ⟨rfl,rfl⟩)
   go_ret
   exact⟨ret_bool HR.out.symm,qal _ _⟩
 ·have HR:Hid (b=false):=N1 (jj8 (by simp;omega))
  clear N1 N2 N3 Y
  unfold Cl;go_in
  go_wp2_with (go_at_call 136;refine(hS _).mono ?_;rintro e w' ⟨rfl,rfl⟩)
  go_ret
  exact⟨ret_bool HR.out.symm,qal _ _⟩
theorem j2u{α:Type}{l:List α}{p:α->Bool}{k:Nat}{x:α}(hk:l[k]? =some x)(h:p x=false):l.all p=false:=by
 rw[List.all_eq_false]
 exact⟨x,lmg hk,by simp[h]⟩
theorem j0p{α:Type}{l:List α}{p:α->Bool}(h:∀j,j<l.length->∀x,l[j]? =some x->p x=true):l.all p=true:=by
 rw[List.all_eq_true]
 intro x hx
 obtain⟨j,hj⟩:=lgo hx
 exact h j (lgs hj).1 x hj
theorem joo(l:List TurnD)(a:Option Addr)(cap:Nat)(w:World)(hA:Za w a 4 (l.map TurnD.cs))(gW:∀r∈l,r.ok)(hl:l.length<=1048576):
  Cl 209 #[.slice a l.length cap,.func (.func 210) #[] #[]] w fun e w'=>e=.returned (.bool (l.all jb8))/\Bw w w':=by
 unfold Cl;go_in
 go_wp2
 go_loopw [9] (fun i wr=>∃k:Nat,k<=l.length/\i=iv k/\Hid (∀j,j<k->∀x,l[j]? =some x->jb8 x=true)/\Bw w wr) (fun i _=>l.length-(intOf i).toNat)
 case atStart=>exact⟨0,by omega,rfl,fun j hj=>by omega,brf _ _⟩
 case round=>
  obtain⟨k,hk,rfl,ak,hB⟩:=hrel
  by_cases hlt:k<l.length
  ·obtain⟨r,hr⟩:=qgg hlt
   have ap:(l.map TurnD.cs)[k]? =some r.cs:=by rw[lgm,hr];rfl
   obtain⟨b,o,rfl,hc⟩:=(hA.below hB).at (i:=k) ap
   have ok:=gW r (lmg hr)
   have hS:=fun w=>jka r w ok
   have c0:wr.cell? (ad b (o+k*4))=some (iv r.at_):=hc 0 _ rfl
   have c1:=hc 1 _ rfl
   have c2:=hc 2 _ rfl
   have c3:=hc 3 _ rfl
   clear hc
   unfold TurnD.v at hS
   cases hb:jb8 r
   ·have HR:Hid (l.all jb8=false):=j2u hr hb
    rw[hb]at hS
    clear hb
    go_wp2_with fail
    refine(hS _).mono ?_
    rintro e w2 ⟨rfl,ac⟩
    go_wp2
    go_ret
    exact⟨ret_bool HR.out.symm,(hB.alloc hB.size _).trans (ac.mono (by simp;have:=hB.size;omega))⟩
   ·have HR:Hid (∀j,j<k+1->∀x,l[j]? =some x->jb8 x=true):=fun j hj x hx=>by
     by_cases e:j=k
     ·subst e;rw[hr]at hx;obtain rfl:=osi hx;exact hb
     ·exact ak.out j (by omega) x hx
    rw[hb]at hS
    clear hb
    go_wp2_with fail
    refine(hS _).mono ?_
    rintro e w2 ⟨rfl,ac⟩
    go_wp2
    go_roundw
    case rel=>exact⟨k+1,by omega,by go_num,HR,(hB.alloc hB.size _).trans (ac.mono (by simp;have:=hB.size;omega))⟩
    case measure=>simp[intOf];omega
  ·have e:k=l.length:=by omega
   subst e
   have HR:Hid (l.all jb8=true):=j0p ak.out
   go_wp2
   go_ret
   exact⟨ret_bool HR.out.symm,hB⟩
set_option maxRecDepth 20000 in
theorem jjh(l:List TurnD)(v:Value)(w:World)(hv:Zy w v l)(gW:∀r∈l,r.ok)(hl:l.length<=1048576):
  Cl 180 #[v] w fun e w'=>e=.returned (.bool (tabB l))/\Bw w w':=by
 obtain⟨a,cap,rfl,hA⟩:=hv
 have ag:=fun o=>qal w o
 by_cases hl0:l.length<1
 ·rw[juz (by omega)]
  unfold Cl;go_in
  go_wp2
  go_ret
  exact⟨rfl,ag _⟩
 by_cases G3:600<l.length
 ·rw[juz (by omega)]
  unfold Cl;go_in
  go_wp2
  go_ret
  exact⟨rfl,ag _⟩
 have h2:=fun w (h:Za w a 4 (l.map TurnD.cs))=>joo l a cap w h gW (by omega)
 cases ha:l.all jb8
 ·rw[j1o ha]
  rw[ha]at h2
  clear ha
  unfold Cl;go_in
  go_wp2_with fail
  refine(h2 _ (hA.below (ag _))).mono ?_
  rintro e w1 ⟨rfl,hb1⟩
  go_wp2
  go_ret
  exact⟨rfl,(ag _).trans (hb1.mono (by simp))⟩
 rw[ha]at h2
 have HZ:Hid (upT l=true->tabB l=jo7 l):=fun h=>jre (by omega) ha h
 have HN:Hid (upT l=false->tabB l=false):=fun h=>juy h
 clear ha
 generalize tabB l=zb at *
 unfold Cl;go_in
 go_wp2_with fail
 refine(h2 _ (hA.below (ag _))).mono ?_
 rintro e w1 ⟨rfl,hb1⟩
 obtain⟨hc,_⟩:=jaf hb1
 have aj:=(ag _).trans (hb1.mono (by simp))
 have x1:w1.cell? (ad w.heap.size 0)=some (.slice a l.length cap):=(hc _ _ (by simp)).trans (by simp[go_sem])
 have eL:=hA.below aj
 clear hc hb1 h2
 obtain⟨n,au⟩:∃n,l.length=n+1:=⟨l.length-1,by omega⟩
 go_wp2
 go_loopw [22] (fun i wr=>∃k:Nat,k<=n/\i=iv k/\Hid (∀j,j<k->∀x y,l[j]? =some x->l[j+1]? =some y->x.at_<y.at_)/\Bw w1 wr) (fun i _=>n-(intOf i).toNat)
 case atStart=>exact⟨0,by omega,rfl,fun j hj=>by omega,brf _ _⟩
 case round=>
  obtain⟨k,hk,rfl,ak,hB⟩:=hrel
  have y1:wr.cell? (ad w.heap.size 0)=some (.slice a l.length cap):=by rw[(jaf hB).1 _ _ (qbl x1)];exact x1
  have dr:=qtr aj hB
  by_cases hlt:k<n
  ·obtain⟨r,hr⟩:∃r,l[k]? =some r:=⟨_,lgg (by omega)⟩
   obtain⟨r2,dC⟩:∃r,l[k+1]? =some r:=⟨_,lgg (by omega)⟩
   obtain⟨b,o,rfl,hc⟩:=(eL.below hB).at (i:=k) (r:=r.cs) (by rw[lgm,hr];rfl)
   obtain⟨b',o',he,hd⟩:=(eL.below hB).at (i:=k+1) (r:=r2.cs) (by rw[lgm,dC];rfl)
   injection he with he
   injection he with e1 e2
   subst e1 e2
   have c4:wr.cell? (ad b (o+k*4))=some (iv r.at_):=hc 0 _ rfl
   have d4:wr.cell? (ad b (o+(k+1)*4))=some (iv r2.at_):=hd 0 _ rfl
   clear hc hd
   by_cases hu:r.at_<r2.at_
   ·have HR:Hid (∀j,j<k+1->∀x y,l[j]? =some x->l[j+1]? =some y->x.at_<y.at_):=fun j hj x y hx hy=>by
     by_cases e:j=k
     ·subst e;rw[hr]at hx;rw[dC]at hy;obtain rfl:=osi hx;obtain rfl:=osi hy;exact hu
     ·exact ak.out j (by omega) x y hx hy
    go_wp2_with fail
    go_quiet (fail)
    go_wp2
    go_roundw
    case rel=>exact⟨k+1,by omega,by go_num,HR,below_drewN hB _⟩
    case measure=>simp[intOf];omega
   ·have HR:Hid (zb=false):=HN.out (j0w hr dC hu)
    go_wp2_with fail
    go_quiet (fail)
    go_wp2
    go_ret
    exact⟨ret_bool HR.out.symm,below_drewN dr _⟩
  ·have e:k=n:=by omega
   subst e
   obtain⟨r,hr⟩:∃r,l[k]? =some r:=⟨_,lgg (by omega)⟩
   obtain⟨f,hf⟩:∃r,l[0]? =some r:=⟨_,lgg (by omega)⟩
   obtain⟨b,o,rfl,hc⟩:=(eL.below hB).at (i:=k) (r:=r.cs) (by rw[lgm,hr];rfl)
   obtain⟨b',o',he,hd⟩:=(eL.below hB).at (i:=0) (r:=f.cs) (by rw[lgm,hf];rfl)
   injection he with he
   injection he with e1 e2
   subst e1 e2
   have c4:wr.cell? (ad b (o+k*4))=some (iv r.at_):=hc 0 _ rfl
   have d4:wr.cell? (ad b o)=some (iv f.at_):=by simpa using hd 0 _ rfl
   clear hc hd
   have HR:Hid (zb=((f.at_== -62135596800)&&decide (r.at_<=253402300799))):=by
    simp only[Hid]
    rw[HZ.out (jut fun i x y hx hy=>ak.out i (by have:=(lgs hy).1;omega) x y hx hy)]
    exact jxi au hf hr
   cases g:(f.at_== -62135596800)
   ·rw[g]at HR
    go_wp2
    go_ret
    exact⟨ret_bool HR.out.symm,dr⟩
   ·rw[g]at HR
    go_wp2
    go_ret
    exact⟨ret_bool (by rw[HR.out];simp),dr⟩
def jmw:TurnD:=⟨0,0,0,⟨#[]⟩⟩
theorem jfn(n:Int)(w:World):
  Cl 69 #[iv n] w fun e w'=>e=.returned (.bool (isB n (-62135596800) 253402300799))/\w'=w:=by
 unfold Cl;go_in
 go_wp2_with (go_at_call 13;refine(jau _ _ _ _).mono ?_;rintro e w' ⟨rfl,rfl⟩)
 go_ret
 exact⟨rfl,rfl⟩
theorem jyr{w:World}{b:Nat}{x0 x1 x2 x3 v0 v1 v2 v3:Value}(h0:w.cell? (ad b 0)=some x0)(h1:w.cell? (ad b 1)=some x1)(h2:w.cell? (ad b 2)=some x2)(h3:w.cell? (ad b 3)=some x3):
  ((((w.setCell (ad b 0) v0).setCell (ad b 1) v1).setCell (ad b 2) v2).setCell (ad b 3) v3).cell? (ad b 0)=some v0/\((((w.setCell (ad b 0) v0).setCell (ad b 1) v1).setCell (ad b 2) v2).setCell (ad b 3) v3).cell? (ad b 1)=some v1/\((((w.setCell (ad b 0) v0).setCell (ad b 1) v1).setCell (ad b 2) v2).setCell (ad b 3) v3).cell? (ad b 2)=some v2/\((((w.setCell (ad b 0) v0).setCell (ad b 1) v1).setCell (ad b 2) v2).setCell (ad b 3) v3).cell? (ad b 3)=some v3:=by
 refine⟨?_,?_,?_,?_⟩
 ·rw[wco _ _ _ _ (by simp),wco _ _ _ _ (by simp),wco _ _ _ _ (by simp),wcs _ _ _ h0]
 ·rw[wco _ _ _ _ (by simp),wco _ _ _ _ (by simp)]
  refine wcs _ _ _ (u:=x1) ?_
  rw[wco _ _ _ _ (by simp)];exact h1
 ·rw[wco _ _ _ _ (by simp)]
  refine wcs _ _ _ (u:=x2) ?_
  rw[wco _ _ _ _ (by simp),wco _ _ _ _ (by simp)];exact h2
 ·refine wcs _ _ _ (u:=x3) ?_
  rw[wco _ _ _ _ (by simp),wco _ _ _ _ (by simp),wco _ _ _ _ (by simp)];exact h3
theorem jg0(n:Int)(w:World):
  Cl 106 #[iv n] w fun e w'=>e=.returned (.bool (isB n (-62135596800) 253402300799))/\w'=w:=by
 by_cases h: -62135596800<=n
 ·unfold Cl;go_in
  go_wp2
  go_ret
  exact⟨ret_bool (by unfold isB;simp[h]),rfl⟩
 ·unfold Cl;go_in
  go_wp2
  go_ret
  exact⟨ret_bool (jj8 (by omega)).symm,rfl⟩
def outV(p:Int × Int):Value:=.agg #[iv p.1,iv p.2]
def jh0(m:Int):Int × Int:=if isB m (-62135596800) 253402300799=true then(m,0)else(0,4)
theorem jpl{m:Int}(h:isB m (-62135596800) 253402300799=true):jh0 m=(m,0):=by unfold jh0;rw[if_pos h]
theorem jpm{m:Int}(h:isB m (-62135596800) 253402300799=false):jh0 m=(0,4):=by unfold jh0;rw[if_neg (by rw[h];simp)]
theorem ja4{w:World}{b:Nat}{x0 x1 v0 v1:Value}(h0:w.cell? (ad b 0)=some x0)(h1:w.cell? (ad b 1)=some x1):
  ((w.setCell (ad b 0) v0).setCell (ad b 1) v1).cell? (ad b 0)=some v0/\((w.setCell (ad b 0) v0).setCell (ad b 1) v1).cell? (ad b 1)=some v1:=by
 refine⟨?_,?_⟩
 ·rw[wco _ _ _ _ (by simp),wcs _ _ _ h0]
 ·refine wcs _ _ _ (u:=x1) ?_
  rw[wco _ _ _ _ (by simp)];exact h1
theorem jdu(m:Int)(w:World):
  Cl 213 #[iv m] w fun e w'=>e=.returned (outV (jh0 m))/\Bw w w':=by
 have ag:=fun o=>qal w o
 have hM:=fun w=>jg0 m w
 cases h:isB m (-62135596800) 253402300799
 ·rw[jpm h]
  rw[h]at hM
  clear h
  unfold Cl;go_in
  go_wp2_with (go_at_call 106;refine(hM _).mono ?_;rintro e w' ⟨rfl,rfl⟩)
  exact bpr (v:=outV (0,4)) (by simp[results,Tryz.results213,go_sem,outV]) rfl ⟨rfl,ag _⟩
 ·rw[jpl h]
  rw[h]at hM
  clear h
  unfold Cl;go_in
  go_wp2_with (go_at_call 106;refine(hM _).mono ?_;rintro e w' ⟨rfl,rfl⟩)
  exact bpr (v:=outV (m,0)) (by simp[results,Tryz.results213,go_sem,outV]) rfl ⟨rfl,ag _⟩
