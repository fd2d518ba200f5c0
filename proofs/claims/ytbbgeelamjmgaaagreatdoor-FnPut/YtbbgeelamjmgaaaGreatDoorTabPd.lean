import Derived.Test.YtbbgeelamjmgaaaGreatDoorRelPd
import Derived.Laws.EntriesVeiled
import Derived.Deep.RegionHeld3
set_option maxHeartbeats 0
set_option linter.unusedSimpArgs false
open Go.RowKit Go.Sort
namespace Go.Proofs.YtbbgeelamjmgaaaGreatDoor
variable{w:World}{es l:List ZK}{a:ZK}{b k:Nat}{v0 v1 x0 x1:Value}{m:Int}
def Zy(w:World)(v:Value)(l:List ZK):Prop:=∃a cap,v=.agg #[U a l.length cap]/\Za w a 4 (l.map ZK.cs)
theorem Zy.below{w':World}{v:Value}(h:Zy w v l)(hb:Bw w w'):Zy w' v l:=by
 obtain⟨a,cap,rfl,hA⟩:=h;exact⟨a,cap,rfl,hA.below hb⟩
theorem jc2{p q i j:Nat}(h:p≠q):((O p i):Addr)≠(O q j):=λe=>by injection e with e1;exact h e1
def jb8(t:ZK):Bool:=ZX t.Zq (-100000) 100000&&(ZX t.YX (-7200) 7200&&decide (t.uh.size<=20))
theorem vje{t:ZK}(h:ZX t.Zq (-100000) 100000=false):jb8 t=false:=by unfold jb8;rw[h];rfl
theorem vjf{t:ZK}(h:ZX t.YX (-7200) 7200=false):jb8 t=false:=by unfold jb8;rw[h];simp
theorem vjg{t:ZK}(h:¬t.uh.size<=20):jb8 t=false:=by unfold jb8;rw[dfe h];simp
theorem vgu{t:ZK}(h1:ZX t.Zq (-100000) 100000=true)(h2:ZX t.YX (-7200) 7200=true)(h3:t.uh.size<=20):jb8 t=true:=by unfold jb8;rw[h1,h2,rT h3];rfl
def upT:List ZK->Bool
 |[]=>true
 |[_]=>true
 |x::y::l=>decide (x.at_<y.at_)&&upT (y::l)
theorem j0w:∀{i:Nat} {x y:ZK},es[i]? =some x->es[i+1]? =some y->¬x.at_<y.at_->upT es=false:=by
 induction es with
 |nil=>intro i x y h;simp at h
 | cons a l ih=>
  intro i x y hx hy hn
  match l,i with
  |[],_=>simp at hy
  |b::l,0=>
   simp at hx hy;subst hx hy;simp[upT,hn]
  |b::l,i+1=>
   have:=ih (i:=i) (x:=x) (y:=y) (by simpa using hx) (by simpa using hy) hn;simp only[upT,this,Bool.and_false]
theorem jut(h:∀i x y,es[i]? =some x->es[i+1]? =some y->x.at_<y.at_):upT es=true:=by
 induction es with
 |nil=>rfl
 | cons a l ih=>
  match l with
  |[]=>rfl
  |b::l=>
   have h0:=h 0 a b rfl rfl;have:=ih λi x y hx hy=>h (i+1) x y (by simpa using hx) (by simpa using hy)
   simp only[upT,this,rT h0,Bool.and_true]
theorem j21(h:upT es=true){i:Nat}{x y:ZK}(hx:es[i]? =some x)(hy:es[i+1]? =some y):x.at_<y.at_:=by
 by_cases hn:x.at_<y.at_
 .exact hn
 .rw[j0w hx hy hn]at h;cases h
theorem j22(h:upT es=true){i:Nat}{x:ZK}(hx:es[i]? =some x):∀(d:Nat) {y:ZK},es[i+d]? =some y->x.at_<=y.at_:=by
 intro d
 induction d with
 |zero=>intro y hy;rw[Nat.add_zero,hx]at hy;obtain rfl:=Z9 hy;exact Int.le_refl _
 |succ d ih=>
  intro y hy;have hlt:=(pO hy).1;obtain⟨z,hz⟩:∃z,es[i+d]? =some z:=⟨_,ZV Q⟩;have h1:=ih hz;have h2:=j21 h hz (y:=y) (by rw[show i+d+1=i+(d+1) by omega];exact hy);omega
theorem jpk(h:upT es=true){i j:Nat}(eF:i<=j){x y:ZK}(hx:es[i]? =some x)(hy:es[j]? =some y):x.at_<=y.at_:=
 j22 h hx (j-i) (by rw[show i+(j-i)=j by omega];exact hy)
def jo7(l:List ZK):Bool:=match l[0]?,l[l.length-1]? with
 |some a,some b=>(a.at_== -62135596800)&&decide (b.at_<=253402300799)
 |_,_=>false
def vaq(l:List ZK):Bool:=decide (1<=l.length/\l.length<=600)&&(l.all jb8&&(upT l&&jo7 l))
theorem juz(h:¬(1<=l.length/\l.length<=600)):vaq l=false:=by unfold vaq;rw[dfe h];rfl
theorem j1o(h:l.all jb8=false):vaq l=false:=by unfold vaq;rw[h];simp
theorem juy(h:upT l=false):vaq l=false:=by unfold vaq;rw[h];simp
theorem jux(h:jo7 l=false):vaq l=false:=by unfold vaq;rw[h];simp
theorem jre(h1:1<=l.length/\l.length<=600)(h2:l.all jb8=true)(h3:upT l=true):vaq l=jo7 l:=by unfold vaq;rw[rT h1,h2,h3];simp
theorem jxi{n:Nat}{b:ZK}(hn:l.length=n+1)(ha:l[0]? =some a)(hb:l[n]? =some b):jo7 l=((a.at_== -62135596800)&&decide (b.at_<=253402300799)):=by
 unfold jo7;rw[show l.length-1=n by omega,ha,hb]
theorem ju0(ha:l[0]? =some a)(h:a.at_≠ -62135596800):vaq l=false:=by
 apply jux;unfold jo7;rw[ha];cases l[l.length-1]? with
 |none=>rfl
 |some b=>simp[h]
theorem j1m{x:ZK}(hx:l[k]? =some x)(h:253402300799<x.at_):vaq l=false:=by
 cases hu:upT l
 .exact juy hu
 .apply jux
  have hk:=(pO hx).1;obtain⟨b,hb⟩:∃b,l[l.length-1]? =some b:=⟨_,ZV Q⟩;have:=jpk hu (show k<=l.length-1 by omega) hx hb;unfold jo7;rw[hb];cases l[0]? with
  |none=>rfl
  |some a=>simp;omega
structure Js(l:List ZK):Prop where
 len:1<=l.length/\l.length<=600
 up:upT l=true
 first:∀a,l[0]? =some a->a.at_= -62135596800
 top:∀(k:Nat) x,l[k]? =some x->x.at_<=253402300799
 one:∀x∈l,jb8 x=true
theorem j0x(h:vaq l=true):Js l:=by
 have hh:=h;unfold vaq at h;simp only[vB,decide_eq_true_eq,List.all_eq_true]at h;have⟨h1,h2,h3,h4⟩:=h;refine⟨h1,h3,λa ha=>?_,λk x hx=>?_,h2⟩
 .by_cases e:a.at_= -62135596800
  .exact e
  .rw[ju0 ha e]at hh;cases hh
 .by_cases e:x.at_<=253402300799
  .exact e
  .rw[j1m hx Q]at hh;cases hh
theorem ji5(n:Int)(w:World):
  C 152 #[J n] w λe w'=>e=V (.bool (ZX n (-7200) 7200))/\w'=w:=by
 by_cases h: -7200<=n
 .unfold C;go_in
  go_wp2;go_ret;exact⟨ZG (by unfold ZX;simp[h]),rfl⟩
 .unfold C;go_in
  go_wp2;go_ret;exact⟨ZG (jj8 Q).symm,rfl⟩
theorem jka(t:ZK)(w:World)(ok:t.ok):
  C 241 #[t.v] w λe w'=>e=V (.bool (jb8 t))/\Bw w w':=by
 obtain⟨at_,Zq,YX,uh⟩:=t;unfold ZK.ok maxLen at ok;have hS:=λw=>ji5 YX w
 have N1:=@vje ⟨at_,Zq,YX,uh⟩;have N2:=@vjf ⟨at_,Zq,YX,uh⟩;have N3:=@vjg ⟨at_,Zq,YX,uh⟩;have Y:=@vgu ⟨at_,Zq,YX,uh⟩;generalize jb8 ⟨at_,Zq,YX,uh⟩=b at *;simp only[ZK.v]at *;by_cases h1: -100000<=Zq
 .by_cases h2:Zq<=100000
  .have AK:=jma h1 h2
   cases h3:ZX YX (-7200) 7200
   .have HR:Hid (b=false):=N2 h3
    rw[h3]at hS;clear N1 N2 N3 Y AK h3;unfold C;go_in;go_wp2_with (go_at_call 152;refine(hS _).mono ?_;rintro e w' ⟨rfl,rfl⟩);go_ret;exact⟨ZG HR.out.symm,ZA _ _⟩
   .rw[h3]at hS
    have HR:Hid (b=decide (uh.size<=20)):=by
     by_cases h4:uh.size<=20
     .exact(Y AK h3 h4).trans (rT h4).symm
     .exact(N3 h4).trans (dfe h4).symm
    clear N1 N2 N3 Y AK h3;unfold C;go_in;go_wp2_with (go_at_call 152;refine(hS _).mono ?_;rintro e w' ⟨rfl,rfl⟩);go_ret;exact⟨ZG (by rw[HR.out];simp;omega),ZA _ _⟩
  .have HR:Hid (b=false):=N1 (jj8 RO)
   clear N1 N2 N3 Y;unfold C;go_in;go_wp2_with (go_at_call 152;refine(hS _).mono ?_;rintro e w' ⟨rfl,rfl⟩);go_ret;exact⟨ZG HR.out.symm,ZA _ _⟩
 .have HR:Hid (b=false):=N1 (jj8 RO)
  clear N1 N2 N3 Y;unfold C;go_in;go_wp2_with (go_at_call 152;refine(hS _).mono ?_;rintro e w' ⟨rfl,rfl⟩);go_ret;exact⟨ZG HR.out.symm,ZA _ _⟩
theorem j2u{α:Type}{l:List α}{p:α->Bool}{x:α}(hk:l[k]? =some x)(h:p x=false):l.all p=false:=by
 rw[List.all_eq_false];exact⟨x,ui hk,by simp[h]⟩
theorem j0p{α:Type}{l:List α}{p:α->Bool}(h:∀j,j<l.length->∀x,l[j]? =some x->p x=true):l.all p=true:=by
 rw[List.all_eq_true];intro x hx;have⟨j,hj⟩:=lgo hx;exact h j (pO hj).1 x hj
theorem joo(l:List ZK)(a:Option Addr)(cap:Nat)(w:World)(hA:Za w a 4 (l.map ZK.cs))(lH:∀r∈l,r.ok)(hl:l.length<=1048576):
  C 240 #[U a l.length cap,.func (.func 241) #[] #[]] w λe w'=>e=V (.bool (l.all jb8))/\Bw w w':=by
 unfold C;go_in;go_wp2;go_loopw [9] (λi wr=>∃k:Nat,k<=l.length/\i=J k/\Hid (∀j,j<k->∀x,l[j]? =some x->jb8 x=true)/\Bw w wr) (λi _=>l.length-(intOf i).toNat)
 .exact⟨0,Q,rfl,λj hj=>Q,ZU _ _⟩
 ·
  obtain⟨k,hk,rfl,ak,hB⟩:=hrel;by_cases hlt:k<l.length
  .have⟨r,hr⟩:=DV hlt
   have ap:(l.map ZK.cs)[k]? =some r.cs:=by rw[Z8,hr];rfl
   obtain⟨b,o,rfl,hc⟩:=(hA.below hB).at (i:=k) ap;have ok:=lH r (ui hr);have hS:=λw=>jka r w ok
   have c0:wr.cell? (O b (o+k*4))=some (J r.at_):=hc 0 _ rfl;have c1:=hc 1 _ rfl;have c2:=hc 2 _ rfl;have c3:=hc 3 _ rfl;clear hc;unfold ZK.v at hS;cases hb:jb8 r
   .have HR:Hid (l.all jb8=false):=j2u hr hb
    rw[hb]at hS;clear hb;go_wp2_with fail;refine(hS _).mono ?_;rintro e w2 ⟨rfl,ac⟩;go_wp2;go_ret;exact⟨ZG HR.out.symm,(hB.alloc hB.size _).trans (ac.mono (by simp;have:=hB.size;omega))⟩
   .have HR:Hid (∀j,j<k+1->∀x,l[j]? =some x->jb8 x=true):=λj hj x hx=>by
     by_cases e:j=k
     .subst e;rw[hr]at hx;obtain rfl:=Z9 hx;exact hb
     .exact ak.out j Q x hx
    rw[hb]at hS;clear hb;go_wp2_with fail;refine(hS _).mono ?_;rintro e w2 ⟨rfl,ac⟩;go_wp2;go_roundw
    .exact⟨k+1,Q,RP,HR,(hB.alloc hB.size _).trans (ac.mono (by simp;have:=hB.size;omega))⟩
    .simp[intOf];omega
  .have e:k=l.length:=Q
   subst e;have HR:Hid (l.all jb8=true):=j0p ak.out;go_wp2;go_ret;exact⟨ZG HR.out.symm,hB⟩
set_option maxRecDepth 20000 in
theorem jjh(l:List ZK)(v:Value)(w:World)(hv:Zy w v l)(lH:∀r∈l,r.ok)(hl:l.length<=1048576):
  C 203 #[v] w λe w'=>e=V (.bool (vaq l))/\Bw w w':=by
 obtain⟨a,cap,rfl,hA⟩:=hv;have ag:=λo=>ZA w o
 by_cases rv:l.length<1
 .rw[juz Q]
  unfold C;go_in;go_wp2;go_ret;exact⟨rfl,ag _⟩
 by_cases G3:600<l.length
 .rw[juz Q]
  unfold C;go_in;go_wp2;go_ret;exact⟨rfl,ag _⟩
 have h2:=λw (h:Za w a 4 (l.map ZK.cs))=>joo l a cap w h lH Q
 cases ha:l.all jb8
 .rw[j1o ha]
  rw[ha]at h2;clear ha;unfold C;go_in;go_wp2_with fail;refine(h2 _ (hA.below (ag _))).mono ?_;rintro e w1 ⟨rfl,hb1⟩;go_wp2;go_ret;exact⟨rfl,(ag _).trans (hb1.mono M)⟩
 rw[ha]at h2;have HZ:Hid (upT l=true->vaq l=jo7 l):=λh=>jre Q ha h
 have HN:Hid (upT l=false->vaq l=false):=λh=>juy h
 clear ha;generalize vaq l=zb at *;unfold C;go_in;go_wp2_with fail;refine(h2 _ (hA.below (ag _))).mono ?_;rintro e w1 ⟨rfl,hb1⟩;have⟨hc,_⟩:=Z4 hb1;have aj:=(ag _).trans (hb1.mono M);have x1:w1.cell? (O w.heap.size 0)=some (U a l.length cap):=(hc _ _ M).trans RQ;have eL:=hA.below aj;clear hc hb1 h2;obtain⟨n,au⟩:∃n,l.length=n+1:=⟨l.length-1,Q⟩;go_wp2;go_loopw [22] (λi wr=>∃k:Nat,k<=n/\i=J k/\Hid (∀j,j<k->∀x y,l[j]? =some x->l[j+1]? =some y->x.at_<y.at_)/\Bw w1 wr) (λi _=>n-(intOf i).toNat)
 .exact⟨0,Q,rfl,λj hj=>Q,ZU _ _⟩
 ·
  obtain⟨k,hk,rfl,ak,hB⟩:=hrel;have y1:wr.cell? (O w.heap.size 0)=some (U a l.length cap):=by rw[(Z4 hB).1 _ _ (ZI x1)];exact x1
  have dr:=Zp aj hB;by_cases hlt:k<n
  .obtain⟨r,hr⟩:∃r,l[k]? =some r:=⟨_,ZV Q⟩
   obtain⟨r2,dC⟩:∃r,l[k+1]? =some r:=⟨_,ZV Q⟩;obtain⟨b,o,rfl,hc⟩:=(eL.below hB).at (i:=k) (r:=r.cs) (by rw[Z8,hr];rfl);have⟨b',o',he,hd⟩:=(eL.below hB).at (i:=k+1) (r:=r2.cs) (by rw[Z8,dC];rfl);injection he with he
   injection he with e1 e2
   subst e1 e2;have c4:wr.cell? (O b (o+k*4))=some (J r.at_):=hc 0 _ rfl;have d4:wr.cell? (O b (o+(k+1)*4))=some (J r2.at_):=hd 0 _ rfl;clear hc hd;by_cases hu:r.at_<r2.at_
   .have HR:Hid (∀j,j<k+1->∀x y,l[j]? =some x->l[j+1]? =some y->x.at_<y.at_):=λj hj x y hx hy=>by
     by_cases e:j=k
     .subst e;rw[hr]at hx;rw[dC]at hy;obtain rfl:=Z9 hx;obtain rfl:=Z9 hy;exact hu
     .exact ak.out j Q x y hx hy
    go_wp2_with fail;go_quiet (fail);go_wp2;go_roundw
    .exact⟨k+1,Q,RP,HR,below_drewN hB _⟩
    .simp[intOf];omega
   .have HR:Hid (zb=false):=HN.out (j0w hr dC hu)
    go_wp2_with fail;go_quiet (fail);go_wp2;go_ret;exact⟨ZG HR.out.symm,below_drewN dr _⟩
  .have e:k=n:=Q
   subst e;obtain⟨r,hr⟩:∃r,l[k]? =some r:=⟨_,ZV Q⟩;obtain⟨f,hf⟩:∃r,l[0]? =some r:=⟨_,ZV Q⟩;obtain⟨b,o,rfl,hc⟩:=(eL.below hB).at (i:=k) (r:=r.cs) (by rw[Z8,hr];rfl);have⟨b',o',he,hd⟩:=(eL.below hB).at (i:=0) (r:=f.cs) (by rw[Z8,hf];rfl);injection he with he
   injection he with e1 e2
   subst e1 e2;have c4:wr.cell? (O b (o+k*4))=some (J r.at_):=hc 0 _ rfl;have d4:wr.cell? (O b o)=some (J f.at_):=by simpa using hd 0 _ rfl
   clear hc hd;have HR:Hid (zb=((f.at_== -62135596800)&&decide (r.at_<=253402300799))):=by
    simp only[Hid];rw[HZ.out (jut λi x y hx hy=>ak.out i (by have:=(pO hy).1;omega) x y hx hy)];exact jxi au hf hr
   cases g:(f.at_== -62135596800)
   .rw[g]at HR
    go_wp2;go_ret;exact⟨ZG HR.out.symm,dr⟩
   .rw[g]at HR
    go_wp2;go_ret;exact⟨ZG (by rw[HR.out];simp),dr⟩
def jmw:ZK:=⟨0,0,0,⟨#[]⟩⟩
theorem jfn(n:Int)(w:World):
  C 61 #[J n] w λe w'=>e=V (.bool (ZX n (-62135596800) 253402300799))/\w'=w:=by
 unfold C;go_in;go_wp2_with (go_at_call 31;refine(jau _ _ _ _).mono ?_;rintro e w' ⟨rfl,rfl⟩);go_ret;exact⟨rfl,rfl⟩
theorem jyr{x2 x3 v2 v3:Value}(h0:w.cell? (O b 0)=some x0)(h1:w.cell? (O b 1)=some x1)(h2:w.cell? (O b 2)=some x2)(h3:w.cell? (O b 3)=some x3):
  ((((w.setCell (O b 0) v0).setCell (O b 1) v1).setCell (O b 2) v2).setCell (O b 3) v3).cell? (O b 0)=some v0/\((((w.setCell (O b 0) v0).setCell (O b 1) v1).setCell (O b 2) v2).setCell (O b 3) v3).cell? (O b 1)=some v1/\((((w.setCell (O b 0) v0).setCell (O b 1) v1).setCell (O b 2) v2).setCell (O b 3) v3).cell? (O b 2)=some v2/\((((w.setCell (O b 0) v0).setCell (O b 1) v1).setCell (O b 2) v2).setCell (O b 3) v3).cell? (O b 3)=some v3:=by
 refine⟨?_,?_,?_,?_⟩
 .rw[ZT _ _ _ _ M,ZT _ _ _ _ M,ZT _ _ _ _ M,Bf _ _ _ h0]
 .rw[ZT _ _ _ _ M,ZT _ _ _ _ M]
  refine Bf _ _ _ (u:=x1) ?_;rw[ZT _ _ _ _ M];exact h1
 .rw[ZT _ _ _ _ M]
  refine Bf _ _ _ (u:=x2) ?_;rw[ZT _ _ _ _ M,ZT _ _ _ _ M];exact h2
 .refine Bf _ _ _ (u:=x3) ?_
  rw[ZT _ _ _ _ M,ZT _ _ _ _ M,ZT _ _ _ _ M];exact h3
theorem jg0(n:Int)(w:World):
  C 94 #[J n] w λe w'=>e=V (.bool (ZX n (-62135596800) 253402300799))/\w'=w:=by
 by_cases h: -62135596800<=n
 .unfold C;go_in
  go_wp2;go_ret;exact⟨ZG (by unfold ZX;simp[h]),rfl⟩
 .unfold C;go_in
  go_wp2;go_ret;exact⟨ZG (jj8 Q).symm,rfl⟩
def xW(p:Int × Int):Value:=.agg #[J p.1,J p.2]
def jh0(m:Int):Int × Int:=if ZX m (-62135596800) 253402300799=true then(m,0)else(0,4)
theorem jpl(h:ZX m (-62135596800) 253402300799=true):jh0 m=(m,0):=by unfold jh0;rw[if_pos h]
theorem jpm(h:ZX m (-62135596800) 253402300799=false):jh0 m=(0,4):=by unfold jh0;rw[if_neg (by rw[h];simp)]
theorem ja4(h0:w.cell? (O b 0)=some x0)(h1:w.cell? (O b 1)=some x1):
  ((w.setCell (O b 0) v0).setCell (O b 1) v1).cell? (O b 0)=some v0/\((w.setCell (O b 0) v0).setCell (O b 1) v1).cell? (O b 1)=some v1:=by
 refine⟨?_,?_⟩
 .rw[ZT _ _ _ _ M,Bf _ _ _ h0]
 .refine Bf _ _ _ (u:=x1) ?_
  rw[ZT _ _ _ _ M];exact h1
theorem jdu(m:Int)(w:World):
  C 244 #[J m] w λe w'=>e=V (xW (jh0 m))/\Bw w w':=by
 have ag:=λo=>ZA w o
 have hM:=λw=>jg0 m w
 cases h:ZX m (-62135596800) 253402300799
 .rw[jpm h]
  rw[h]at hM;clear h;unfold C;go_in;go_wp2_with (go_at_call 94;refine(hM _).mono ?_;rintro e w' ⟨rfl,rfl⟩);exact ZM (v:=xW (0,4)) (by simp[results,Tryz.results244,go_sem,xW]) rfl ⟨rfl,ag _⟩
 .rw[jpl h]
  rw[h]at hM;clear h;unfold C;go_in;go_wp2_with (go_at_call 94;refine(hM _).mono ?_;rintro e w' ⟨rfl,rfl⟩);exact ZM (v:=xW (m,0)) (by simp[results,Tryz.results244,go_sem,xW]) rfl ⟨rfl,ag _⟩
