import Derived.Test.YtmkjofknhdikpaaGreatDoorSXd
set_option maxRecDepth 20000
set_option maxHeartbeats 0
set_option linter.unusedSimpArgs false
open Go.RowKit Go.Sort
namespace Go.Proofs.YtmkjofknhdikpaaGreatDoor
variable{x y:TD}{F a b base c cap d e g i j m Uj n:Nat}{w w' w0:World}
def VV(x y:TD):Prop:=x.Ty<y.Ty\/(x.Ty=y.Ty/\x.id<y.id)
theorem vfZ{z:TD}(h1:VV x y)(h2:VV y z):VV x z:=by unfold VV at *;omega
theorem vfY(h:VV x y):x.Ty<=y.Ty:=by unfold VV at h;omega
def lf(n:Nat)(f:Nat->TD):List TD:=(List.range n).map f
theorem vap(n:Nat)(f:Nat->TD):(lf n f).length=n:=by simp[lf]
theorem WN{f:Nat->TD}(h:i<n):(lf n f)[i]? =some (f i):=by simp[lf,h]
def upd(f:Nat->TD)(i:Nat)(y:TD):Nat->TD:=λk=>if k=i then y else f k
theorem vga{f:Nat->TD}:(lf n f).set i y=lf n (upd f i y):=by
 apply List.ext_getElem?;intro k;rw[List.getElem?_set];by_cases hk:k<n
 .rw[WN (f:=upd f i y) hk,vap]
  by_cases e:i=k
  .subst e;rw[if_pos rfl,if_pos hk];simp[upd]
  .rw[if_neg e,WN hk];simp[upd,Ne.symm e]
 .rw[List.getElem?_eq_none (by rw[vap];omega),List.getElem?_eq_none (by rw[vap];omega),vap]
  by_cases e:i=k<;>simp[e,hk]
theorem vd0(P:List TD)(d:TD):P=lf P.length (λk=>P[k]?.getD d):=by
 apply List.ext_getElem?;intro k;by_cases hk:k<P.length
 .rw[WN hk,Ug hk];rfl
 .rw[List.getElem?_eq_none Q,List.getElem?_eq_none (by rw[vap];omega)]
def swp(f:Nat->TD)(i j:Nat):Nat->TD:=upd (upd f i (f j)) j (f i)
structure Same(a b:Nat)(f g:Nat->TD):Prop where
 out:∀k,k<a\/b<=k->g k=f k
 sub:∀k,a<=k->k<b->∃i,a<=i/\i<b/\f k=g i
 sup:∀k,a<=k->k<b->∃i,a<=i/\i<b/\g k=f i
theorem Same.refl(a b:Nat)(f:Nat->TD):Same a b f f:=⟨λ_ _=>rfl,λk h1 h2=>⟨k,h1,h2,rfl⟩,λk h1 h2=>⟨k,h1,h2,rfl⟩⟩
theorem Same.trans{f g h:Nat->TD}(h1:Same a b f g)(h2:Same a b g h):Same a b f h:=by
 refine⟨λk hk=>(h2.out k hk).trans (h1.out k hk),λk p q=>?_,λk p q=>?_⟩
 .have⟨i,i1,i2,e⟩:=h1.sub k p q
  have⟨j,j1,j2,e2⟩:=h2.sub i i1 i2;exact⟨j,j1,j2,e.trans e2⟩
 .have⟨i,i1,i2,e⟩:=h2.sup k p q
  have⟨j,j1,j2,e2⟩:=h1.sup i i1 i2;exact⟨j,j1,j2,e.trans e2⟩
theorem Same.wide{f g:Nat->TD}(h:Same a b f g)(h1:c<=a)(h2:b<=d):Same c d f g:=by
 refine⟨λk hk=>h.out k Q,λk p q=>?_,λk p q=>?_⟩
 .by_cases hk:a<=k/\k<b
  .have⟨i,i1,i2,e⟩:=h.sub k hk.1 hk.2
   exact⟨i,Q,Q,e⟩
  .exact⟨k,p,q,(h.out k Q).symm⟩
 .by_cases hk:a<=k/\k<b
  .have⟨i,i1,i2,e⟩:=h.sup k hk.1 hk.2
   exact⟨i,Q,Q,e⟩
  .exact⟨k,p,q,h.out k Q⟩
theorem Same.by{f g:Nat->TD}(p q:Nat->Nat)(hg:∀k,g k=f (p k))(hp:∀k,a<=k->k<b->a<=p k/\p k<b)(ho:∀k,k<a\/b<=k->p k=k)(hq:∀k,a<=k->k<b->a<=q k/\q k<b/\p (q k)=k):Same a b f g:=
 ⟨λk hk=>by rw[hg,ho k hk],λk h1 h2=>⟨q k,(hq k h1 h2).1,(hq k h1 h2).2.1,by rw[hg,(hq k h1 h2).2.2]⟩,λk h1 h2=>⟨p k,(hp k h1 h2).1,(hp k h1 h2).2,hg k⟩⟩
def VL(f:Nat->TD)(a b:Nat):Prop:=∀i j,a<=i->i<j->j<b->VV (f i) (f j)
theorem VL.le{f:Nat->TD}(h:VL f a b){i j:Nat}(h1:a<=i)(h2:i<=j)(h3:j<b):(f i).Ty<=(f j).Ty:=by
 by_cases e:i=j
 .subst e;exact Int.le_refl _
 .exact vfY (h i j h1 Q h3)
def Y1(f:Nat->TD)(a m b:Nat):Prop:=∀i j,a<=i->i<m->m<=j->j<b->(f i).id<(f j).id
def vag(a m b k:Nat):Nat:=if a<=k/\k<a+(b-m)then m+(k-a)else if a+(b-m)<=k/\k<b then k-(b-m)else k
def WO(f:Nat->TD)(a m b:Nat):Nat->TD:=λk=>f (vag a m b k)
theorem vg8{f:Nat->TD}(h1:a<=m)(h2:m<=b):Same a b f (WO f a m b):=by
 refine Same.by (vag a m b) (vag a (a+(b-m)) b) (λ_=>rfl) (λk p q=>?_) (λk hk=>?_) (λk p q=>?_)
 .unfold vag;split<;>(try split)<;>omega
 .unfold vag;split<;>(try split)<;>omega
 .unfold vag;split<;>(try split)<;>(try split)<;>(try split)<;>omega
def vbr(a b n k:Nat):Nat:=if a<=k/\k<a+n then b+(k-a)else if b<=k/\k<b+n then a+(k-b)else k
def Xe(f:Nat->TD)(a b n:Nat):Nat->TD:=λk=>f (vbr a b n k)
theorem vhE{f:Nat->TD}(h:a+n<b):swp (Xe f a b n) (a+n) (b+n)=Xe f a b (n+1):=by
 funext k
 unfold swp upd Xe vbr;by_cases e1:k=b+n
 .subst e1
  rw[if_pos rfl,if_neg Q,if_neg Q,if_neg Q,if_pos Q]
  congr 1;omega
 .rw[if_neg e1]
  by_cases e2:k=a+n
  .subst e2
   rw[if_pos rfl,if_neg Q,if_neg Q,if_pos Q]
   congr 1;omega
  .rw[if_neg e2]
   congr 1
   split<;>split<;>(try split)<;>(try split)<;>omega
theorem vg5{f:Nat->TD}(h:j<i)(hm:i<=m):WO (Xe f (m-i) m j) (m-i+j) m (m+j)=WO f (m-i) m (m+j):=by
 funext k
 unfold WO Xe
 congr 1
 unfold vag vbr
 repeat' split
 all_goals omega
theorem vg7{f:Nat->TD}(h:i<j)(hm:i<=m):WO (Xe f (m-i) (m+j-i) i) (m-i) m (m+(j-i))=WO f (m-i) m (m+j):=by
 funext k
 unfold WO Xe
 congr 1
 unfold vag vbr
 repeat' split
 all_goals omega
theorem vg4{f:Nat->TD}(hm:i<=m):Xe f (m-i) m i=WO f (m-i) m (m+i):=by
 funext k
 unfold WO Xe
 congr 1
 unfold vag vbr
 repeat' split
 all_goals omega
def vaO(j i k:Nat):Nat:=if k=j then i else if j<k/\k<=i then k-1 else k
def ins(f:Nat->TD)(j i:Nat):Nat->TD:=λk=>f (vaO j i k)
theorem vdO(f:Nat->TD)(i:Nat):ins f i i=f:=by
 funext k
 unfold ins
 congr 1
 unfold vaO
 repeat' split
 all_goals omega
theorem vdR{f:Nat->TD}(h:j<i):swp (ins f (j+1) i) (j+1) j=ins f j i:=by
 funext k
 unfold swp upd ins
 repeat' split
 all_goals (congr 1;unfold vaO;repeat' split)
 all_goals omega
theorem vdP{f:Nat->TD}(h1:a<=j)(h2:j<=i):Same a (i+1) f (ins f j i):=by
 refine Same.by (vaO j i) (λk=>if k=i then j else if j<=k/\k<i then k+1 else k) (λ_=>rfl) (λk p q=>?_) (λk hk=>?_) (λk p q=>?_)
 all_goals unfold vaO
 all_goals repeat' split
 all_goals omega
theorem vdQ{f:Nat->TD}(hs:VL f a i)(h1:a<=j)(h2:j<=i)(hb:∀k,j<=k->k<i->(f i).Ty<(f k).Ty)(ha:j=a\/(f (j-1)).Ty<=(f i).Ty)(hid:∀k,a<=k->k<i->(f k).id<(f i).id):VL (ins f j i) a (i+1):=by
 intro x y hx gI hy;unfold ins vaO;by_cases e1:x=j
 .rw[if_pos e1,if_neg Q,if_pos Q]
  exact .inl (hb (y-1) Q Q)
 .rw[if_neg e1]
  by_cases e2:y=j
  .rw[if_pos e2,if_neg Q]
   have h3:(f x).Ty<=(f (j-1)).Ty:=hs.le hx Q Q;have h4:=hid x hx Q;have h5:(f (j-1)).Ty<=(f i).Ty:=ha.resolve_left Q;unfold VV;omega
  .rw[if_neg e2]
   split<;>split
   .exact hs _ _ Q Q Q
   .omega
   .exact hs _ _ Q Q Q
   .by_cases e3:y<i
    .exact hs _ _ Q gI e3
    .omega
def vbi(a e k:Nat):Nat:=if k=e then a else if a<=k/\k<e then k+1 else k
def XN(f:Nat->TD)(a e:Nat):Nat->TD:=λk=>f (vbi a e k)
theorem vgh(f:Nat->TD)(a:Nat):XN f a a=f:=by
 funext k
 unfold XN
 congr 1
 unfold vbi
 repeat' split
 all_goals omega
theorem vgk{f:Nat->TD}(h:a<=e):swp (XN f a e) e (e+1)=XN f a (e+1):=by
 funext k
 unfold swp upd XN
 repeat' split
 all_goals (congr 1;unfold vbi;repeat' split)
 all_goals omega
theorem vgi{f:Nat->TD}(h1:a<=e)(h2:e<b):Same a b f (XN f a e):=by
 refine Same.by (vbi a e) (λk=>if k=a then e else if a<k/\k<=e then k-1 else k) (λ_=>rfl) (λk p q=>?_) (λk hk=>?_) (λk p q=>?_)
 all_goals unfold vbi
 all_goals repeat' split
 all_goals omega
theorem vgj{f:Nat->TD}(hs:VL f (a+1) b)(h1:a<=e)(h2:e<b)(hl:∀k,a+1<=k->k<e+1->(f k).Ty<(f a).Ty)(hg:∀k,e+1<=k->k<b->(f a).Ty<=(f k).Ty)(hid:Y1 f a (a+1) b):VL (XN f a e) a b:=by
 intro x y hx gI hy;unfold XN vbi;by_cases e1:x=e
 .rw[if_pos e1,if_neg Q,if_neg Q]
  have h3:=hg y Q hy;have h4:=hid a y Q Q Q hy;unfold VV;omega
 .rw[if_neg e1]
  by_cases e2:y=e
  .rw[if_pos e2,if_pos Q]
   exact .inl (hl (x+1) Q Q)
  .rw[if_neg e2]
   split<;>split
   .exact hs _ _ Q Q Q
   .exact hs _ _ Q Q Q
   .omega
   .exact hs _ _ Q Q Q
theorem vg6{f:Nat->TD}(h:m<=a\/b<=m)(h1:a<=m)(h2:m<=b):WO f a m b=f:=by
 funext k
 unfold WO
 congr 1
 unfold vag
 repeat' split
 all_goals omega
structure veU(f:Nat->TD)(a s Uj e b:Nat):Prop where
 s1:VL f a s
 s2:VL f s Uj
 s3:VL f Uj e
 s4:VL f e b
 i1:Y1 f a s Uj
 i2:Y1 f Uj e b
 cross:∀i j,a<=i->i<Uj->Uj<=j->j<b->VV (f i) (f j)
theorem parted{f:Nat->TD}{s:Nat}(h1:VL f a m)(h2:VL f m b)(hid:Y1 f a m b)(q1:a<=s)(q2:s<=m)(q3:s<=Uj)(q5:Uj+m-s<=b)(hl:s=a\/Uj+m-s=b\/(f (s-1)).Ty<=(f (Uj+m-s)).Ty)(hg:s=m\/s=Uj\/(f (Uj+m-s-1)).Ty<(f s).Ty):veU (WO f s m (Uj+m-s)) a s Uj (Uj+m-s) b:=by
 have hv:∀k,WO f s m (Uj+m-s) k=f (if s<=k/\k<Uj then m+(k-s)else if Uj<=k/\k<Uj+m-s then k-(Uj-s)else k):=λk=>by
  unfold WO
  congr 1
  unfold vag
  repeat' split
  all_goals omega
 refine⟨λi j p q r=>?_,λi j p q r=>?_,λi j p q r=>?_,λi j p q r=>?_,λi j p q r t=>?_,λi j p q r t=>?_,λi j p q r t=>?_⟩
 .rw[hv,hv,if_neg Q,if_neg Q,if_neg Q,if_neg Q]
  exact h1 i j p q Q
 .rw[hv,hv,if_pos Q,if_pos Q]
  exact h2 _ _ Q Q Q
 .rw[hv,hv,if_neg Q,if_pos Q,if_neg Q,if_pos Q]
  exact h1 _ _ Q Q Q
 .rw[hv,hv,if_neg Q,if_neg Q,if_neg Q,if_neg Q]
  exact h2 i j Q q r
 .rw[hv,hv,if_neg Q,if_neg Q,if_pos Q]
  exact hid _ _ p Q Q Q
 .rw[hv,hv,if_neg Q,if_pos Q,if_neg Q,if_neg Q]
  exact hid _ _ Q Q Q t
 .rw[hv,hv,if_neg (show ¬(s<=j/\j<Uj) by omega)]
  by_cases c1:i<s
  .rw[if_neg Q,if_neg Q]
   by_cases c2:j<Uj+m-s
   .rw[if_pos Q]
    exact h1 _ _ p Q Q
   .rw[if_neg Q]
    have t1:(f i).Ty<=(f (s-1)).Ty:=h1.le p Q Q;have t2:(f (Uj+m-s)).Ty<=(f j).Ty:=h2.le Q Q t;have t3:=hid i j p Q Q t;have t4:(f (s-1)).Ty<=(f (Uj+m-s)).Ty:=(hl.resolve_left Q).resolve_left Q;unfold VV;omega
  .rw[if_pos Q]
   by_cases c2:j<Uj+m-s
   .rw[if_pos Q]
    have t1:(f (m+(i-s))).Ty<=(f (Uj+m-s-1)).Ty:=h2.le Q Q Q;have t2:(f s).Ty<=(f (j-(Uj-s))).Ty:=h1.le q1 Q Q;have t4:=(hg.resolve_left Q).resolve_left Q;unfold VV;omega
   .rw[if_neg Q]
    exact h2 _ _ Q Q t
theorem joined{f g h:Nat->TD}(h1:Same a Uj f g)(h2:Same Uj b g h)(s1:VL g a Uj)(s2:VL h Uj b)(hc:∀i j,a<=i->i<Uj->Uj<=j->j<b->VV (f i) (f j)):VL h a b:=by
 intro x y hx gI hy;by_cases c1:y<Uj
 .rw[h2.out x (.inl Q),h2.out y (.inl c1)]
  exact s1 x y hx gI c1
 .by_cases c2:x<Uj
  .have⟨j,j1,j2,e⟩:=h2.sup y Q hy
   have⟨i,i1,i2,e2⟩:=h1.sup x hx c2;rw[h2.out x (.inl c2),e,e2,h1.out j (.inr j1)];exact hc i j i1 i2 j1 j2
  .exact s2 x y Q gI hy
theorem Y1.same{f g:Nat->TD}(h:Y1 f a m b)(hs:Same c d f g)(tW:(a<=c/\d<=m)\/(m<=c/\d<=b)\/d<=a\/b<=c):Y1 g a m b:=by
 intro i j p q r t;have k1:∃i',a<=i'/\i'<m/\g i=f i':=by
  by_cases c1:c<=i/\i<d
  .have⟨i',p1,p2,e⟩:=hs.sup i c1.1 c1.2
   exact⟨i',Q,Q,e⟩
  .exact⟨i,p,q,hs.out i Q⟩
 have k2:∃j',m<=j'/\j'<b/\g j=f j':=by
  by_cases c1:c<=j/\j<d
  .have⟨j',p1,p2,e⟩:=hs.sup j c1.1 c1.2
   exact⟨j',Q,Q,e⟩
  .exact⟨j,r,t,hs.out j Q⟩
 have⟨i',p1,p2,e⟩:=k1;have⟨j',p3,p4,e2⟩:=k2;rw[e,e2];exact h i' j' p1 p2 p3 p4
theorem VL.same{f g:Nat->TD}(h:VL f a b)(hs:Same c d f g)(tW:d<=a\/b<=c):VL g a b:=λi j p q r=>by
 rw[hs.out i Q,hs.out j Q];exact h i j p q r
theorem US{p:Prop}(h:p):Hid p:=h
def Vj(w:World)(base g cap n:Nat)(f:Nat->TD):Prop:=Jb w base (so g n cap) (lf n f)
theorem Vj.below{f:Nat->TD}(h:Vj w base g cap n f)(hb:Bw w w'):Vj w' base g cap n f:=Jb.below h hb
theorem Vj.row{f:Nat->TD}(h:Vj w base g cap n f):w.ownsRow base 43 6 (so g n cap) n ((lf n f).map TD.cs).flatten:=by
 have h2:=h;unfold Vj Jb at h2;rw[vap]at h2;exact h2
theorem Vj.ge{f:Nat->TD}(h:Vj w base g cap n f):base<=g:=(World.ownsRow.lt h.row g rfl).1
theorem Vj.free{f:Nat->TD}(h:Vj w base g cap n f)(i:Nat):w.frozen? (O g (i*6))=false/\w.frozen? (O g (i*6+1))=false/\w.frozen? (O g (i*6+2))=false/\w.frozen? (O g (i*6+3))=false/\w.frozen? (O g (i*6+4))=false/\w.frozen? (O g (i*6+5))=false:=⟨h.row.frozenAt _,h.row.frozenAt _,h.row.frozenAt _,h.row.frozenAt _,h.row.frozenAt _,h.row.frozenAt _⟩
theorem Vj.put{f:Nat->TD}(h:Vj w base g cap n f){i:Nat}(hi:i<n)(y:TD):Vj (w.setCells g (i*6) y.cs) base g cap n (upd f i y):=by
 have:=Jb.put h (vap n f).symm i hi y;rw[vga]at this;exact this
theorem Vj.swap{f:Nat->TD}(h:Vj w base g cap n f){i j:Nat}(hi:i<n)(hj:j<n):Vj ((w.setCells g (i*6) (f j).cs).setCells g (j*6) (f i).cs) base g cap n (swp f i j):=(h.put hi (f j)).put hj (f i)
theorem vaR{o:Nat}(h:Below base w0 w)(hg:base<=g)(y:TD):Below base w0 (w.setCells g o y.cs):=jev hg y.cs o w0 w h
theorem vb3(h:Below base w0 w):Below base w0 w.drew:=⟨h.os,h.tape,h.output,h.size,h.block⟩
theorem vhF(f:Nat->TD)(a b:Nat):Xe f a b 0=f:=by
 funext k
 unfold Xe
 congr 1
 unfold vbr
 repeat' split
 all_goals omega
theorem vcK(f:Nat->TD)(base g cap n a b m:Nat)(w:World)(h:Vj w base g cap n f)(h1:a+m<=b)(h2:b+m<=n)(hn:n<=1000):
  C 206 #[so g n cap,J a,J b,J m,.func (.func F) #[] #[]] w λe w'=>e=V (.tuple #[])/\Vj w' base g cap n (Xe f a b m)/\Below base w w':=by
 have hg:=h.ge;have HH:=US h;clear h;delta C;go_in;go_wp2;go_loopw [10] (λs wr=>∃k:Nat,s=J k/\k<=m/\Hid (Vj wr base g cap n (Xe f a b k))/\Hid (Below base w wr)) (λs _=>m-(intOf s).toNat)
 .exact⟨0,rfl,Q,by rw[vhF];exact HH,Ui _ _⟩
 ·
  have⟨wa,dS⟩:=UL wr;subst dS;obtain⟨k,rfl,hk,HR,HB⟩:=hrel;clear HH;by_cases hlt:k<m
  .have hR:=HR.out
   have HS:Hid (Vj ((wa.setCells g ((a+k)*6) (Xe f a b k (b+k)).cs).setCells g ((b+k)*6) (Xe f a b k (a+k)).cs) base g cap n (Xe f a b (k+1))):=by
    simp only[Hid];rw[<- vhE Q];exact hR.swap Q Q
   have jI:Hid (Below base w ((wa.setCells g ((a+k)*6) (Xe f a b k (b+k)).cs).setCells g ((b+k)*6) (Xe f a b k (a+k)).cs)):=vaR (vaR HB.out hg _) hg _;generalize hu:a+k=u at *;generalize hv:b+k=v at *;have e1:(a:Int)+(k:Int)=(u:Int):=Q;have e2:(b:Int)+(k:Int)=(v:Int):=Q;have i1:(u:Int)<(n:Int):=Q;have i2:(v:Int)<(n:Int):=Q;have i3:(0:Int)<=(u:Int):=Q;have i4:(0:Int)<=(v:Int):=Q;have⟨c0,c1,c2,c3,c4,c5⟩:=VO hR (WN (show u<n by omega));have⟨d0,d1,d2,d3,d4,d5⟩:=VO hR (WN (show v<n by omega));have⟨f0,f1,f2,f3,f4,f5⟩:=hR.free u;have⟨g0,g1,g2,g3,g4,g5⟩:=hR.free v;generalize Xe f a b k u=x at *;generalize Xe f a b k v=y at *;have z:=(hR.put (show u<n by omega) y).free v;have hP:=hR.put (show u<n by omega) y;have⟨p0,p1,p2,p3,p4,p5⟩:=VO hP (WN (show v<n by omega));obtain⟨z0,z1,z2,z3,z4,z5⟩:=z;simp only[World.setCells,TD.cs,Nat.add_assoc,Nat.reduceAdd]at p0 p1 p2 p3 p4 p5 z0 z1 z2 z3 z4 z5;clear hR hP HR;go_wp2_with fail;go_region;go_wp2;go_roundw
   .exact⟨k+1,Z7,Q,HS.out.below (UF _),vb3 jI.out⟩
   .simp[intOf];omega
  .obtain rfl:k=m:=Q
   have j1:¬(k:Int)<(k:Int):=Q;go_wp2;exact bodyPost_end (results_none Tryz.results206 _ _ _) rfl ⟨rfl,HR.out,HB.out⟩
theorem vfr(f:Nat->TD)(base g cap n a m b:Nat)(w:World)(h:Vj w base g cap n f)(h1:a<m)(h2:m<b)(h3:b<=n)(hn:n<=1000):
  C 153 #[so g n cap,J a,J m,J b,.func (.func F) #[] #[]] w λe w'=>e=V (.tuple #[])/\Vj w' base g cap n (WO f a m b)/\Below base w w':=by
 have HH:=US h;clear h;delta C;go_in;go_wp2;go_loopw [10,11] (λs t wr=>∃(i j:Nat) (f2:Nat->TD),s=J i/\t=J j/\(1<=i/\1<=j/\a<=m-i/\i<=m/\m+j<=b)/\Hid (WO f2 (m-i) m (m+j)=WO f a m b)/\Hid (Vj wr base g cap n f2)/\Hid (Below base w wr)) (λs t _=>(intOf s).toNat+(intOf t).toNat)
 .exact⟨m-a,b-m,f,Z7,Z7,Q,by simp only[Hid];rw[show m-(m-a)=a by omega,show m+(b-m)=b by omega],HH,Ui _ _⟩
 ·
  have⟨wa,dS⟩:=UL wr;subst dS;obtain⟨i,j,f2,rfl,rfl,eF,HE,HR,HB⟩:=hrel;clear HH;have e1:(m:Int)-(i:Int)=((m-i:Nat):Int):=Q;rcases Nat.lt_trichotomy j i with hlt|heq|hgt
  .have hC:=vcK (F:=F) f2 base g cap n (m-i) m j wa HR.out Q Q hn
   have g1:((i:Int)==(j:Int))=false:=Z6;have g2:(j:Int)<(i:Int):=Q;have lc:Hid (WO (Xe f2 (m-i) m j) (m-(i-j)) m (m+j)=WO f a m b):=by
    simp only[Hid];rw[show m-(i-j)=m-i+j by omega,vg5 hlt Q];exact HE.out
   clear HE HR;go_wp2_with fail;refine hC.mono ?_;rintro e w2 ⟨rfl,aM,an⟩;have lh:=US aM;have jI:=US (HB.out.trans an);clear aM an hC;go_wp2;go_roundw
   .exact⟨i-j,j,_,Z7,rfl,Q,lc,lh,jI⟩
   .simp[intOf];omega
  .subst heq
   have hC:=vcK (F:=F) f2 base g cap n (m-j) m j wa HR.out Q Q hn;rw[vg4 Q,HE.out]at hC;clear HE HR;go_wp2_with fail;refine hC.mono ?_;rintro e w2 ⟨rfl,aM,an⟩;have lh:=US aM;have jI:=US (HB.out.trans an);clear aM an hC;go_wp2;exact bodyPost_end (results_none Tryz.results153 _ _ _) rfl ⟨rfl,lh.out,jI.out⟩
  .have e2:(m:Int)+(j:Int)-(i:Int)=((m+j-i:Nat):Int):=Q
   have hC:=vcK (F:=F) f2 base g cap n (m-i) (m+j-i) i wa HR.out Q Q hn;have g1:((i:Int)==(j:Int))=false:=Z6;have g2:¬(j:Int)<(i:Int):=Q;have lc:Hid (WO (Xe f2 (m-i) (m+j-i) i) (m-i) m (m+(j-i))=WO f a m b):=by
    simp only[Hid];rw[vg7 hgt Q];exact HE.out
   clear HE HR;go_wp2_with fail;refine hC.mono ?_;rintro e w2 ⟨rfl,aM,an⟩;have lh:=US aM;have jI:=US (HB.out.trans an);clear aM an hC;go_wp2;go_roundw
   .exact⟨i,j-i,_,rfl,Z7,Q,lc,lh,jI⟩
   .simp[intOf];omega
def vaL(x y:TD):Int:=if x.Ty<y.Ty then -1 else if y.Ty<x.Ty then 1 else 0
structure va7:Prop where
 call:∀(x y:TD) W,C 35 #[x.v,y.v] W λe W'=>e=V (J (vaL x y))/\Bw W W'
theorem vb6(h:x.Ty<y.Ty):vaL x y= -1:=if_pos h
theorem vb5(h:¬x.Ty<y.Ty):¬vaL x y<0:=by unfold vaL;rw[if_neg h];split<;>omega
theorem vaK(h:Below base w0 w)(hb:Bw w w')(hw:base<=w0.heap.size):Below base w0 w':=h.trans (hb.mono (Nat.le_trans hw h.size))
theorem ve7(w:World)(n:Nat):Bw w (w.drewN n):=⟨rfl,rfl,rfl,TP _,λ_ _=>rfl⟩
theorem ve8(n:Nat)(h:Below base w0 w):Below base w0 (w.drewN n):=⟨h.os,h.tape,h.output,h.size,h.block⟩
theorem vcJ(hF:va7)(f:Nat->TD)(base g cap n a b:Nat)(w:World)(h:Vj w base g cap n f)(hb:base<=w.heap.size)(h1:a<=b)(h2:b<=n)(hn:n<=1000)(hid:∀i j,a<=i->i<j->j<b->(f i).id<(f j).id):
  C 104 #[so g n cap,J a,J b,.func (.func 35) #[] #[]] w λe w'=>e=V (.tuple #[])/\(∃f2,Vj w' base g cap n f2/\Same a b f f2/\VL f2 a b)/\Below base w w':=by
 have hg:=h.ge;have HH:=US h;have HI:=US hid;clear h hid;delta C;go_in;go_wp2;go_loopw [8,9] (λs _ wr=>∃(i:Nat) (f2:Nat->TD),s=J i/\(a+1<=i/\(i<=b\/i=a+1))/\Hid (Vj wr base g cap n f2)/\Hid (Same a i f f2)/\Hid (VL f2 a i)/\Hid (Below base w wr)) (λs _ _=>b-(intOf s).toNat)
 .exact⟨a+1,f,Z7,Q,HH,Same.refl _ _ _,λi j p q r=>Q,Ui _ _⟩
 ·
  have⟨wa,dS⟩:=UL wr;subst dS;obtain⟨i,f2,rfl,hi,HR,HS,HT,HB⟩:=hrel;clear HH;by_cases hlt:i<b
  .have HD:Hid (∀k,a<=k->k<i->(f2 k).id<(f2 i).id):=λk p q=>by
    have⟨k2,p1,p2,e⟩:=HS.out.sup k p q;rw[e,HS.out.out i (.inr (TP _))];exact HI.out k2 i p1 p2 hlt
   have i1:(i:Int)<(b:Int):=Q;go_wp2;go_loopw [9] (λs wr=>∃j:Nat,s=J j/\(a<=j/\j<=i)/\Hid (Vj wr base g cap n (ins f2 j i))/\Hid (∀k,j<=k->k<i->(f2 i).Ty<(f2 k).Ty)/\Hid (Below base w wr)) (λs _=>(intOf s).toNat)
   .exact⟨i,rfl,Q,by rw[vdO];exact HR,λk p q=>Q,HB⟩
   ·
    have⟨wb,mQ⟩:=UL wr;subst mQ;obtain⟨j,rfl,hj,uC,HW,Bf⟩:=hrel;clear HR HB;have HF:Hid (∀f3,f3=ins f2 j i->(j=a\/(f2 (j-1)).Ty<=(f2 i).Ty)->Same a (i+1) f f3/\VL f3 a (i+1)):=λf3 e ha=>by
     subst e;exact⟨(HS.out.wide (TP _) Q).trans (vdP hj.1 hj.2),vdQ HT.out hj.1 hj.2 HW.out ha HD.out⟩
    by_cases Kd:a<j
    .have j1:(a:Int)<(j:Int):=Q
     have j2:(j:Int)<(n:Int):=Q;have j3:(0:Int)<=(j:Int):=Q;obtain⟨q,hq⟩:∃q,j=q+1:=⟨j-1,Q⟩;have hq1:q<j:=Q;have hq2:j<=q+1:=Q;have HQ:=US hq;clear hq;have e1:(j:Int)-1=(q:Int):=Q;have q2:(q:Int)<(n:Int):=Q;have q3:(0:Int)<=(q:Int):=Q;have qQ:IntKind.i64.wrap (q:Int)=(q:Int):=by rw[IntKind.wrap_i64];omega
     have hR:=uC.out;have hx:ins f2 j i j=f2 i:=by unfold ins vaO;rw[if_pos rfl]
     have hy:ins f2 j i q=f2 q:=by unfold ins vaO;rw[if_neg Q,if_neg Q]
     have⟨c0,c1,c2,c3,c4,c5⟩:=VO hR (WN (show j<n by omega));have⟨d0,d1,d2,d3,d4,d5⟩:=VO hR (WN (show q<n by omega));rw[hx]at c0 c1 c2 c3 c4 c5;rw[hy]at d0 d1 d2 d3 d4 d5;have hA:=λW=>hF.call (f2 i) (f2 q) W
     simp only[TD.v]at hA;have lD:=US (And.intro hx hy);have ga:decide (a<j)=true:=Uy Kd;have Rp:decide ((a:Int)<(j:Int))=true:=Uy j1;have k0:=cell_regrown c0;have l0:=cell_regrown d0;have k1:=cell_regrown c1;have l1:=cell_regrown d1;have k2:=cell_regrown c2;have l2:=cell_regrown d2;have k3:=cell_regrown c3;have l3:=cell_regrown d3;have k4:=cell_regrown c4;have l4:=cell_regrown d4;have k5:=cell_regrown c5;have l5:=cell_regrown d5;clear hR hx hy c0 c1 c2 c3 c4 c5 d0 d1 d2 d3 d4 d5;by_cases hw:(f2 i).Ty<(f2 q).Ty
     .rw[vb6 hw]at hA
      have cE:∀dd os,C _ _ (grow (redrawn wb dd) os) λe cW=>e=V (J (-1))/\∃p:Regrown,cW=grow (redrawn wb p.d) p.os:=λ_ _=>Calls.regrown_of (hA _)
      go_wp2_with fail;refine wp_region_quiet_below Z4 Z4 ?_
      repeat (quiet_step ((go_at_call 35;exact cE _ _)))
      refine wpQuiet_nil ?_;intro wc gm;have⟨⟨dq,aQ⟩,cJ⟩:=gm;have ww:Bw wb wc:=cJ ▸ below_regrown wb dq aQ;have aM:=uC.out.below ww;have jI:=US (vaK Bf.out ww hb);clear k0 l0 k1 l1 k2 l2 k3 l3 k4 l4 k5 l5 hA cE ww cJ uC;have⟨c0,c1,c2,c3,c4,c5⟩:=VO aM (WN (show j<n by omega));have⟨d0,d1,d2,d3,d4,d5⟩:=VO aM (WN (show q<n by omega));have⟨f0,f1,Ro,f3,f4,f5⟩:=aM.free j;have⟨g0,g1,g2,g3,g4,g5⟩:=aM.free q;have hP:=aM.put (show j<n by omega) (f2 q);have⟨p0,p1,p2,p3,p4,p5⟩:=VO hP (WN (show q<n by omega));have⟨z0,z1,z2,z3,z4,z5⟩:=hP.free q;have jM:Hid (Vj ((wc.setCells g (j*6) (f2 q).cs).setCells g (q*6) (f2 i).cs) base g cap n (ins f2 q i)):=by
       have h:=aM.swap (show j<n by omega) (show q<n by omega);rw[lD.out.1,lD.out.2,HQ.out,vdR Q]at h;rw[HQ.out];exact h
      have Hg:=US (vaR (o:=q*6) (vaR (o:=j*6) jI.out hg (f2 q)) hg (f2 i));rw[lD.out.1]at c0 c1 c2 c3 c4 c5;rw[lD.out.2]at d0 d1 d2 d3 d4 d5;have LR:Hid (∀k,q<=k->k<i->(f2 i).Ty<(f2 k).Ty):=λk p1 p2=>by
       by_cases e:k=q
       .subst e;exact hw
       .exact HW.out k Q p2
      simp only[World.setCells,TD.cs,Nat.add_assoc,Nat.reduceAdd]at p0 p1 p2 p3 p4 p5 z0 z1 z2 z3 z4 z5;clear aM hP lD HF HW hw;go_wp2_with fail;go_region;go_wp2;go_roundw
      .exact⟨q,Z7,Q,jM.out.below (UF _),LR,vb3 Hg.out⟩
      .simp[intOf];omega
     .have FQ:=vb5 hw
      generalize vaL (f2 i) (f2 q)=c at *;have tW:decide (c<0)=false:=dfe FQ;have cE:∀dd os,C _ _ (grow (redrawn wb dd) os) λe cW=>e=V (J c)/\∃p:Regrown,cW=grow (redrawn wb p.d) p.os:=λ_ _=>Calls.regrown_of (hA _)
      have⟨qf,eO⟩:=HF.out _ rfl (.inr (by rw[show j-1=q by omega];omega));have jM:=US qf;have Ex:=US eO;clear qf eO;go_wp2_with fail;refine wp_region_quiet_below Z4 Z4 ?_
      repeat (quiet_step ((go_at_call 35;exact cE _ _)))
      refine wpQuiet_nil ?_;intro wc gm;have⟨⟨dq,aQ⟩,cJ⟩:=gm;have ww:Bw wb wc:=cJ ▸ below_regrown wb dq aQ;have lh:=US (uC.out.below ww);have jI:=US (vaK Bf.out ww hb);clear k0 l0 k1 l1 k2 l2 k3 l3 k4 l4 k5 l5 hA cE ww cJ;go_wp2;go_roundw
      .exact⟨i+1,_,Z7,Q,lh,jM,Ex,jI⟩
      .simp[intOf];omega
    .obtain rfl:j=a:=Q
     have⟨qf,eO⟩:=HF.out _ rfl (.inl rfl);have jM:=US qf;have Ex:=US eO;have j1:¬(j:Int)<(j:Int):=Q;clear qf eO;go_wp2_with fail;go_quiet (fail);go_wp2;go_roundw
     .exact⟨i+1,_,Z7,Q,uC.out.below (ve7 _ _),jM,Ex,ve8 _ Bf.out⟩
     .simp[intOf];omega
  .have i1:¬(i:Int)<(b:Int):=Q
   have HE:Hid (Same a b f f2/\VL f2 a b):=by
    by_cases e:i=b
    .subst e;exact⟨HS.out,HT.out⟩
    .obtain⟨rfl,rfl⟩:i=a+1/\b=a:=Q
     refine⟨⟨λk hk=>?_,λk p q=>Q,λk p q=>Q⟩,λx y p q r=>Q⟩;by_cases e2:k=b
     .subst e2
      have⟨i,p1,p2,e3⟩:=HS.out.sup k Q Q;rw[e3,show i=k by omega]
     .exact HS.out.out k Q
   go_wp2;exact bodyPost_end (results_none Tryz.results104 _ _ _) rfl ⟨rfl,⟨f2,HR.out,HE.out.1,HE.out.2⟩,HB.out⟩
structure vbW(base g cap n a b:Nat)(f:Nat->TD)(w:World)(e:Ending)(w':World):Prop where
 end_:e=V (.tuple #[])
 ex:∃f2,Vj w' base g cap n f2/\Same a b f f2/\VL f2 a b
 TQ:Below base w w'
theorem vhG(hF:va7)(f:Nat->TD)(base g cap n a m b:Nat)(w:World)(h:Vj w base g cap n f)(hb:base<=w.heap.size)(h1:a<m)(h2:m<b)(h3:b<=n)(hn:n<=1000)(s2:VL f m b)(hid:Y1 f a m b)(hm:m=a+1):
  C 105 #[so g n cap,J a,J m,J b,.func (.func 35) #[] #[]] w (vbW base g cap n a b f w):=by
 have hg:=h.ge;have HH:=US h;have e0:(m:Int)-(a:Int)=1:=Q;have Nb:a<m:=Q;have Nc:m<=a+1:=Q;have HM:=US hm;have jM:=US s2;have HI:=US hid;clear h s2 hid hm;delta C;go_in;go_wp2;go_loopw [10,11,12] (λs t _ wr=>∃i j:Nat,s=J i/\t=J j/\(m<=i/\i<=j/\j<=b)/\Hid (∀k,m<=k->k<i->(f k).Ty<(f a).Ty)/\Hid (∀k,j<=k->k<b->(f a).Ty<=(f k).Ty)/\Hid (Vj wr base g cap n f)/\Hid (Below base w wr)) (λs t _ _=>(intOf t).toNat-(intOf s).toNat)
 .exact⟨m,b,rfl,rfl,Q,λk p q=>Q,λk p q=>Q,HH,Ui _ _⟩
 ·
  have⟨wa,dS⟩:=UL wr;subst dS;obtain⟨i,j,rfl,rfl,eF,HL,HG,HR,HB⟩:=hrel;clear HH;by_cases hlt:i<j
  .have i1:(i:Int)<(j:Int):=Q
   have⟨c,hc⟩:=TY ((i+j) / 2);have ec:((i:Int)+(j:Int)) / 2=(c:Int):=Q;have aX:i<=c:=Q;have cU:c<j:=Q;have c1:(c:Int)<(n:Int):=Q;have c2:(0:Int)<=(c:Int):=Q;have a1:(a:Int)<(n:Int):=Q;have a2:(0:Int)<=(a:Int):=Q;clear hc;have⟨c0,c1,c2,c3,c4,c5⟩:=VO HR.out (WN (show c<n by omega));have⟨d0,d1,d2,d3,d4,d5⟩:=VO HR.out (WN (show a<n by omega));have k0:=cell_regrown c0;have k1:=cell_regrown c1;have k2:=cell_regrown c2;have k3:=cell_regrown c3;have k4:=cell_regrown c4;have k5:=cell_regrown c5;have l0:=cell_regrown d0;have l1:=cell_regrown d1;have l2:=cell_regrown d2;have l3:=cell_regrown d3;have l4:=cell_regrown d4;have l5:=cell_regrown d5;have hA:=λW=>hF.call (f c) (f a) W
   simp only[TD.v]at hA;clear c0 c1 c2 c3 c4 c5 d0 d1 d2 d3 d4 d5;by_cases hw:(f c).Ty<(f a).Ty
   .have js:Hid (∀k,m<=k->k<c+1->(f k).Ty<(f a).Ty):=λk p q=>by
     have:=jM.out.le p (show k<=c by omega) Q;omega
    rw[vb6 hw]at hA;have cE:∀dd os,C _ _ (grow (redrawn wa dd) os) λe cW=>e=V (J (-1))/\∃p:Regrown,cW=grow (redrawn wa p.d) p.os:=λ_ _=>Calls.regrown_of (hA _)
    go_wp2_with fail;refine wp_region_quiet_below Z4 Z4 ?_
    repeat (quiet_step ((go_at_call 35;exact cE _ _)))
    refine wpQuiet_nil ?_;intro wc gm;have⟨⟨dq,aQ⟩,cJ⟩:=gm;have ww:Bw wa wc:=cJ ▸ below_regrown wa dq aQ;have lh:=US (HR.out.below ww);have jI:=US (vaK HB.out ww hb);clear k0 l0 k1 l1 k2 l2 k3 l3 k4 l4 k5 l5 hA cE ww cJ;go_wp2;go_roundw
    .exact⟨c+1,j,Z7,rfl,Q,js,HG,lh,jI⟩
    .simp[intOf];omega
   .have jK:Hid (∀k,c<=k->k<b->(f a).Ty<=(f k).Ty):=λk p q=>by
     have:=jM.out.le (show m<=c by omega) p q;omega
    have FQ:=vb5 hw;generalize vaL (f c) (f a)=z at *;have tW:decide (z<0)=false:=dfe FQ;have cE:∀dd os,C _ _ (grow (redrawn wa dd) os) λe cW=>e=V (J z)/\∃p:Regrown,cW=grow (redrawn wa p.d) p.os:=λ_ _=>Calls.regrown_of (hA _)
    go_wp2_with fail;refine wp_region_quiet_below Z4 Z4 ?_
    repeat (quiet_step ((go_at_call 35;exact cE _ _)))
    refine wpQuiet_nil ?_;intro wc gm;have⟨⟨dq,aQ⟩,cJ⟩:=gm;have ww:Bw wa wc:=cJ ▸ below_regrown wa dq aQ;have lh:=US (HR.out.below ww);have jI:=US (vaK HB.out ww hb);clear k0 l0 k1 l1 k2 l2 k3 l3 k4 l4 k5 l5 hA cE ww cJ;go_wp2;go_roundw
    .exact⟨i,c,rfl,rfl,Q,HL,jK,lh,jI⟩
    .simp[intOf];omega
  .obtain⟨p,hp⟩:∃p,i=p+1:=⟨i-1,Q⟩
   have sI:p<i:=Q;have Ge:i<=p+1:=Q;have ep:(i:Int)-1=(p:Int):=Q;have wL:¬(i:Int)<(j:Int):=Q;have HE:Hid (Same a b f (XN f a p)/\VL (XN f a p) a b):=⟨vgi Q Q,vgj (HM.out ▸ jM.out) Q Q (λk q1 q2=>HL.out k Q Q) (λk q1 q2=>HG.out k Q q2) (HM.out ▸ HI.out)⟩;clear hp;go_wp2;go_loopw [13] (λs wr=>∃k:Nat,s=J k/\(a<=k/\k<=p)/\Hid (Vj wr base g cap n (XN f a k))/\Hid (Below base w wr)) (λs _=>p-(intOf s).toNat)
   .exact⟨a,rfl,Q,by rw[vgh];exact HR,HB⟩
   ·
    clear HR HB;have⟨wa,dS⟩:=UL wr;subst dS;obtain⟨k,rfl,hk,HR,HB⟩:=hrel;by_cases MZ:k<p
    .have k1:(k:Int)<(p:Int):=Q
     have⟨v,hv⟩:=TY (k+1);have ev:(k:Int)+1=(v:Int):=Q;have v1:(v:Int)<(n:Int):=Q;have v2:(0:Int)<=(v:Int):=Q;have k2:(k:Int)<(n:Int):=Q;have k3:(0:Int)<=(k:Int):=Q;have ej:v<=k+1:=Q;have eQ:k<v:=Q;have HV:=US hv;clear hv;have hR:=HR.out;have jM:Hid (Vj ((wa.setCells g (k*6) (XN f a k v).cs).setCells g (v*6) (XN f a k k).cs) base g cap n (XN f a v)):=by
      have h:=hR.swap (show k<n by omega) (show v<n by omega);rw[<- HV.out,vgk hk.1]at h;rw[<- HV.out];exact h
     have Hg:=US (vaR (o:=v*6) (vaR (o:=k*6) HB.out hg (XN f a k v)) hg (XN f a k k));have⟨c0,c1,c2,c3,c4,c5⟩:=VO hR (WN (show k<n by omega));have⟨d0,d1,d2,d3,d4,d5⟩:=VO hR (WN (show v<n by omega));have⟨f0,f1,f2,f3,f4,f5⟩:=hR.free k;have⟨g0,g1,g2,g3,g4,g5⟩:=hR.free v;have hP:=hR.put (show k<n by omega) (XN f a k v);have⟨p0,p1,p2,p3,p4,p5⟩:=VO hP (WN (show v<n by omega));have⟨z0,z1,z2,z3,z4,z5⟩:=hP.free v;generalize XN f a k v=y at *;generalize XN f a k k=x at *;simp only[World.setCells,TD.cs,Nat.add_assoc,Nat.reduceAdd]at p0 p1 p2 p3 p4 p5 z0 z1 z2 z3 z4 z5;clear hR hP HR;go_wp2_with fail;go_region;go_wp2;go_roundw
     .exact⟨v,Z7,Q,jM.out.below (UF _),vb3 Hg.out⟩
     .simp[intOf];omega
    .have k1:¬(k:Int)<(p:Int):=Q
     obtain rfl:k=p:=Q;go_wp2;exact Ue (results_none Tryz.results105 _ _ _) rfl ⟨rfl,⟨_,HR.out,HE.out.1,HE.out.2⟩,HB.out⟩
theorem vhH(hF:va7)(f:Nat->TD)(base g cap n a m b:Nat)(w:World)(h:Vj w base g cap n f)(hb:base<=w.heap.size)(h2:m<b)(h3:b<=n)(hn:n<=1000)(s1:VL f a m)(hid:Y1 f a m b)(Nb:a+1<m)(hm:b=m+1):
  C 105 #[so g n cap,J a,J m,J b,.func (.func 35) #[] #[]] w (vbW base g cap n a b f w):=by
 have hg:=h.ge;have HH:=US h;have e0:((m:Int)-(a:Int)==1)=false:=Z6;have e1:(b:Int)-(m:Int)=1:=Q;have Nd:m<b:=Q;have Nf:b<=m+1:=Q;have HM:=US hm;have uK:=US s1;have HI:=US hid;clear h s1 hid hm;delta C;go_in;go_wp2;go_loopw [14,15,16] (λs t _ wr=>∃i j:Nat,s=J i/\t=J j/\(a<=i/\i<=j/\j<=m)/\Hid (∀k,a<=k->k<i->(f k).Ty<=(f m).Ty)/\Hid (∀k,j<=k->k<m->(f m).Ty<(f k).Ty)/\Hid (Vj wr base g cap n f)/\Hid (Below base w wr)) (λs t _ _=>(intOf t).toNat-(intOf s).toNat)
 .exact⟨a,m,rfl,rfl,Q,λk p q=>Q,λk p q=>Q,HH,Ui _ _⟩
 ·
  have⟨wa,dS⟩:=UL wr;subst dS;obtain⟨i,j,rfl,rfl,eF,HL,HG,HR,HB⟩:=hrel;clear HH;by_cases hlt:i<j
  .have i1:(i:Int)<(j:Int):=Q
   have⟨c,hc⟩:=TY ((i+j) / 2);have ec:((i:Int)+(j:Int)) / 2=(c:Int):=Q;have aX:i<=c:=Q;have cU:c<j:=Q;have c1:(c:Int)<(n:Int):=Q;have c2:(0:Int)<=(c:Int):=Q;have a1:(m:Int)<(n:Int):=Q;have a2:(0:Int)<=(m:Int):=Q;clear hc;have⟨c0,c1,c2,c3,c4,c5⟩:=VO HR.out (WN (show m<n by omega));have⟨d0,d1,d2,d3,d4,d5⟩:=VO HR.out (WN (show c<n by omega));have k0:=cell_regrown c0;have k1:=cell_regrown c1;have k2:=cell_regrown c2;have k3:=cell_regrown c3;have k4:=cell_regrown c4;have k5:=cell_regrown c5;have l0:=cell_regrown d0;have l1:=cell_regrown d1;have l2:=cell_regrown d2;have l3:=cell_regrown d3;have l4:=cell_regrown d4;have l5:=cell_regrown d5;have hA:=λW=>hF.call (f m) (f c) W
   simp only[TD.v]at hA;clear c0 c1 c2 c3 c4 c5 d0 d1 d2 d3 d4 d5;by_cases hw:(f m).Ty<(f c).Ty
   .have jK:Hid (∀k,c<=k->k<m->(f m).Ty<(f k).Ty):=λk p q=>by
     have:=uK.out.le (show a<=c by omega) p q;omega
    rw[vb6 hw]at hA;have cE:∀dd os,C _ _ (grow (redrawn wa dd) os) λe cW=>e=V (J (-1))/\∃p:Regrown,cW=grow (redrawn wa p.d) p.os:=λ_ _=>Calls.regrown_of (hA _)
    go_wp2_with fail;refine wp_region_quiet_below Z4 Z4 ?_
    repeat (quiet_step ((go_at_call 35;exact cE _ _)))
    refine wpQuiet_nil ?_;intro wc gm;have⟨⟨dq,aQ⟩,cJ⟩:=gm;have ww:Bw wa wc:=cJ ▸ below_regrown wa dq aQ;have lh:=US (HR.out.below ww);have jI:=US (vaK HB.out ww hb);clear k0 l0 k1 l1 k2 l2 k3 l3 k4 l4 k5 l5 hA cE ww cJ;go_wp2;go_roundw
    .exact⟨i,c,rfl,rfl,Q,HL,jK,lh,jI⟩
    .simp[intOf];omega
   .have js:Hid (∀k,a<=k->k<c+1->(f k).Ty<=(f m).Ty):=λk p q=>by
     have:=uK.out.le p (show k<=c by omega) Q;omega
    have FQ:=vb5 hw;generalize vaL (f m) (f c)=z at *;have tW:decide (z<0)=false:=dfe FQ;have cE:∀dd os,C _ _ (grow (redrawn wa dd) os) λe cW=>e=V (J z)/\∃p:Regrown,cW=grow (redrawn wa p.d) p.os:=λ_ _=>Calls.regrown_of (hA _)
    go_wp2_with fail;refine wp_region_quiet_below Z4 Z4 ?_
    repeat (quiet_step ((go_at_call 35;exact cE _ _)))
    refine wpQuiet_nil ?_;intro wc gm;have⟨⟨dq,aQ⟩,cJ⟩:=gm;have ww:Bw wa wc:=cJ ▸ below_regrown wa dq aQ;have lh:=US (HR.out.below ww);have jI:=US (vaK HB.out ww hb);clear k0 l0 k1 l1 k2 l2 k3 l3 k4 l4 k5 l5 hA cE ww cJ;go_wp2;go_roundw
    .exact⟨c+1,j,Z7,rfl,Q,js,HG,lh,jI⟩
    .simp[intOf];omega
  .have wL:¬(i:Int)<(j:Int):=Q
   have HE:Hid (Same a b f (ins f i m)/\VL (ins f i m) a b):=by
    rw[HM.out];refine⟨vdP Q Q,vdQ uK.out Q Q (λk q1 q2=>HG.out k Q q2) ?_ (λk q1 q2=>HI.out k m q1 q2 (TP _) Q)⟩;by_cases e:i=a
    .exact .inl e
    .exact .inr (HL.out (i-1) Q Q)
   go_wp2;go_loopw [17] (λs wr=>∃k:Nat,s=J k/\(i<=k/\k<=m)/\Hid (Vj wr base g cap n (ins f k m))/\Hid (Below base w wr)) (λs _=>(intOf s).toNat)
   .exact⟨m,rfl,Q,by rw[vdO];exact HR,HB⟩
   ·
    clear HR HB;have⟨wa,dS⟩:=UL wr;subst dS;obtain⟨k,rfl,hk,HR,HB⟩:=hrel;by_cases MZ:i<k
    .have k1:(i:Int)<(k:Int):=Q
     obtain⟨v,hv⟩:∃v,k=v+1:=⟨k-1,Q⟩;have ev:(k:Int)-1=(v:Int):=Q;have v1:(v:Int)<(n:Int):=Q;have v2:(0:Int)<=(v:Int):=Q;have k2:(k:Int)<(n:Int):=Q;have k3:(0:Int)<=(k:Int):=Q;have ej:k<=v+1:=Q;have eQ:v<k:=Q;have HV:=US hv;clear hv;have hR:=HR.out;have jM:Hid (Vj ((wa.setCells g (k*6) (ins f k m v).cs).setCells g (v*6) (ins f k m k).cs) base g cap n (ins f v m)):=by
      have h:=hR.swap (show k<n by omega) (show v<n by omega);rw[HV.out,vdR Q]at h;rw[HV.out];exact h
     have Hg:=US (vaR (o:=v*6) (vaR (o:=k*6) HB.out hg (ins f k m v)) hg (ins f k m k));have⟨c0,c1,c2,c3,c4,c5⟩:=VO hR (WN (show k<n by omega));have⟨d0,d1,d2,d3,d4,d5⟩:=VO hR (WN (show v<n by omega));have⟨f0,f1,f2,f3,f4,f5⟩:=hR.free k;have⟨g0,g1,g2,g3,g4,g5⟩:=hR.free v;have hP:=hR.put (show k<n by omega) (ins f k m v);have⟨p0,p1,p2,p3,p4,p5⟩:=VO hP (WN (show v<n by omega));have⟨z0,z1,z2,z3,z4,z5⟩:=hP.free v;generalize ins f k m v=y at *;generalize ins f k m k=x at *;simp only[World.setCells,TD.cs,Nat.add_assoc,Nat.reduceAdd]at p0 p1 p2 p3 p4 p5 z0 z1 z2 z3 z4 z5;clear hR hP HR;go_wp2_with fail;go_region;go_wp2;go_roundw
     .exact⟨v,Z7,Q,jM.out.below (UF _),vb3 Hg.out⟩
     .simp[intOf];omega
    .have k1:¬(i:Int)<(k:Int):=Q
     obtain rfl:k=i:=Q;go_wp2;exact Ue (results_none Tryz.results105 _ _ _) rfl ⟨rfl,⟨_,HR.out,HE.out.1,HE.out.2⟩,HB.out⟩
