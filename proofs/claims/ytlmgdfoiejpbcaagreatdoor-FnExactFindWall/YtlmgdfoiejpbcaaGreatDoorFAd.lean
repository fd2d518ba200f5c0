import Derived.Test.YtlmgdfoiejpbcaaGreatDoorSAd
set_option maxRecDepth 20000
set_option maxHeartbeats 0
set_option linter.unusedSimpArgs false
open Go.RowKit Go.Sort
namespace Go.Proofs.YtlmgdfoiejpbcaaGreatDoor
theorem Jb.below{w w':World}{base:Nat}{v:Value}{L:List EventD}(h:Jb w base v L)(hb:Bw w w'):Jb w' base v L:=jac h hb
theorem Jb.seq{w:World}{base:Nat}{v:Value}{P:List EventD}(h:Jb w base v P):∃a cap,v=.slice a P.length cap/\Za w a 6 (P.map EventD.cs):=by
 obtain⟨a,cap,h1,h2,h3⟩:=jbe (rows:=P.map EventD.cs) (by rw[llm];exact h) jbl
 rw[llm]at h1 h3
 exact⟨a,cap,h1,h2⟩
theorem jf0{w:World}{B g n c:Nat}{L:List EventD}(h:Jb w B (so g n c) L){i:Nat}{x:EventD}(hx:L[i]? =some x):w.cell? (ad g (i*6))=some (iv x.id)/\w.cell? (ad g (i*6+1))=some (.string x.name)/\w.cell? (ad g (i*6+2))=some (.string x.zone)/\w.cell? (ad g (i*6+3))=some (iv x.wall)/\w.cell? (ad g (i*6+4))=some (iv x.gap)/\w.cell? (ad g (i*6+5))=some (iv x.fold):=by
 have hr:(L.map EventD.cs)[i]? =some x.cs:=by rw[lgm,hx];rfl
 have hl:∀r∈L.map EventD.cs,r.length=6:=fun r hr=>by obtain⟨y,_,rfl⟩:=List.mem_map.1 hr;rfl
 exact⟨h.cell (ja3 hl (i:=i) (j:=0) hr rfl),h.cell (ja3 hl (i:=i) (j:=1) hr rfl),h.cell (ja3 hl (i:=i) (j:=2) hr rfl),h.cell (ja3 hl (i:=i) (j:=3) hr rfl),h.cell (ja3 hl (i:=i) (j:=4) hr rfl),h.cell (ja3 hl (i:=i) (j:=5) hr rfl)⟩
theorem jev{base g:Nat}(hg:base<=g):∀(L:List Value) (o:Nat) (w w':World),Below base w w'->Below base w (w'.setCells g o L)
 |[],_,_,_,h=>h
 |v::L,o,w,_,h=>jev hg L (o+1) w _ (h.setCell (p:=⟨g,o,none⟩) hg v)
theorem owns_puts{e:TypeId}{size base g n cap:Nat}:∀(L:List Value) (o:Nat) (w:World) (A B C:List Value),w.ownsRow base e size (so g n cap) n (A++B++C)->A.length=o->B.length=L.length->(w.setCells g o L).ownsRow base e size (so g n cap) n (A++L++C)
 |[],o,w,A,B,C,h,_,hB=>by
  obtain rfl:B=[]:=List.length_eq_zero_iff.mp hB
  exact h
 |v::L,o,w,A,[],C,h,_,hB=>by simp at hB
 |v::L,o,w,A,b::B,C,h,hA,hB=>by
  have h2:=(World.ownsRow.stored h o v).1
  rw[show(A++b::B++C).set o v=A++[v]++B++C by subst hA;simp]at h2
  have:=owns_puts L (o+1) _ (A++[v]) B C h2 (by simp[hA]) (by simpa using hB)
  rw[show A++v::L++C=A++[v]++L++C by simp]
  exact this
theorem Jb.put{w:World}{base g n cap:Nat}{C:List EventD}(h:Jb w base (so g n cap) C)(hn:n=C.length)(i:Nat)(hi:i<n)(y:EventD):Jb (w.setCells g (i*6) y.cs) base (so g n cap) (C.set i y):=by
 subst hn
 have hs:C=C.take i++C[i]::C.drop (i+1):=by simp
 have h1:w.ownsRow base 55 6 (so g C.length cap) C.length (((C.take i).map EventD.cs).flatten++(C[i]).cs++((C.drop (i+1)).map EventD.cs).flatten):=by
  have h2:=h
  unfold Jb at h2
  rw[show(C.map EventD.cs).flatten=((C.take i).map EventD.cs).flatten++(C[i]).cs++((C.drop (i+1)).map EventD.cs).flatten by
   conv=>lhs;rw[hs,lma,List.flatten_append,List.map_cons,List.flatten_cons]
   rw[List.append_assoc]]at h2
  exact h2
 have h3:=owns_puts y.cs (i*6) w _ _ _ h1 (by rw[ja6 jbl,llm,List.length_take,Nat.min_eq_left (Nat.le_of_lt hi)]) rfl
 show World.ownsRow _ _ _ _ _ _ _
 rw[List.length_set,List.set_eq_take_append_cons_drop,if_pos hi]
 simpa using h3
def kLt(x y:EventD):Prop:=x.wall<y.wall\/(x.wall=y.wall/\x.id<y.id)
theorem kLt_trans{x y z:EventD}(h1:kLt x y)(h2:kLt y z):kLt x z:=by unfold kLt at *;omega
theorem kLt_le{x y:EventD}(h:kLt x y):x.wall<=y.wall:=by unfold kLt at h;omega
def lf(n:Nat)(f:Nat->EventD):List EventD:=(List.range n).map f
theorem lf_len(n:Nat)(f:Nat->EventD):(lf n f).length=n:=by simp[lf]
theorem lf_at{n:Nat}{f:Nat->EventD}{i:Nat}(h:i<n):(lf n f)[i]? =some (f i):=by simp[lf,h]
def upd(f:Nat->EventD)(i:Nat)(y:EventD):Nat->EventD:=fun k=>if k=i then y else f k
theorem lf_set{n:Nat}{f:Nat->EventD}{i:Nat}{y:EventD}:(lf n f).set i y=lf n (upd f i y):=by
 apply List.ext_getElem?
 intro k
 rw[List.getElem?_set]
 by_cases hk:k<n
 ·rw[lf_at (f:=upd f i y) hk,lf_len]
  by_cases e:i=k
  ·subst e;rw[if_pos rfl,if_pos hk];simp[upd]
  ·rw[if_neg e,lf_at hk];simp[upd,Ne.symm e]
 ·rw[List.getElem?_eq_none (by rw[lf_len];omega),List.getElem?_eq_none (by rw[lf_len];omega),lf_len]
  by_cases e:i=k<;>simp[e,hk]
theorem lf_of(P:List EventD)(d:EventD):P=lf P.length (fun k=>P[k]?.getD d):=by
 apply List.ext_getElem?
 intro k
 by_cases hk:k<P.length
 ·rw[lf_at hk,lgg hk];rfl
 ·rw[List.getElem?_eq_none (by omega),List.getElem?_eq_none (by rw[lf_len];omega)]
def swp(f:Nat->EventD)(i j:Nat):Nat->EventD:=upd (upd f i (f j)) j (f i)
structure Same(a b:Nat)(f g:Nat->EventD):Prop where
 out:∀k,k<a\/b<=k->g k=f k
 sub:∀k,a<=k->k<b->∃i,a<=i/\i<b/\f k=g i
 sup:∀k,a<=k->k<b->∃i,a<=i/\i<b/\g k=f i
theorem Same.refl(a b:Nat)(f:Nat->EventD):Same a b f f:=⟨fun _ _=>rfl,fun k h1 h2=>⟨k,h1,h2,rfl⟩,fun k h1 h2=>⟨k,h1,h2,rfl⟩⟩
theorem Same.trans{a b:Nat}{f g h:Nat->EventD}(h1:Same a b f g)(h2:Same a b g h):Same a b f h:=by
 refine⟨fun k hk=>(h2.out k hk).trans (h1.out k hk),fun k p q=>?_,fun k p q=>?_⟩
 ·obtain⟨i,i1,i2,e⟩:=h1.sub k p q
  obtain⟨j,j1,j2,e2⟩:=h2.sub i i1 i2
  exact⟨j,j1,j2,e.trans e2⟩
 ·obtain⟨i,i1,i2,e⟩:=h2.sup k p q
  obtain⟨j,j1,j2,e2⟩:=h1.sup i i1 i2
  exact⟨j,j1,j2,e.trans e2⟩
theorem Same.wide{a b c d:Nat}{f g:Nat->EventD}(h:Same a b f g)(h1:c<=a)(h2:b<=d):Same c d f g:=by
 refine⟨fun k hk=>h.out k (by omega),fun k p q=>?_,fun k p q=>?_⟩
 ·by_cases hk:a<=k/\k<b
  ·obtain⟨i,i1,i2,e⟩:=h.sub k hk.1 hk.2
   exact⟨i,by omega,by omega,e⟩
  ·exact⟨k,p,q,(h.out k (by omega)).symm⟩
 ·by_cases hk:a<=k/\k<b
  ·obtain⟨i,i1,i2,e⟩:=h.sup k hk.1 hk.2
   exact⟨i,by omega,by omega,e⟩
  ·exact⟨k,p,q,h.out k (by omega)⟩
theorem Same.by{a b:Nat}{f g:Nat->EventD}(p q:Nat->Nat)(hg:∀k,g k=f (p k))(hp:∀k,a<=k->k<b->a<=p k/\p k<b)(ho:∀k,k<a\/b<=k->p k=k)(hq:∀k,a<=k->k<b->a<=q k/\q k<b/\p (q k)=k):Same a b f g:=
 ⟨fun k hk=>by rw[hg,ho k hk],fun k h1 h2=>⟨q k,(hq k h1 h2).1,(hq k h1 h2).2.1,by rw[hg,(hq k h1 h2).2.2]⟩,fun k h1 h2=>⟨p k,(hp k h1 h2).1,(hp k h1 h2).2,hg k⟩⟩
def Srt(f:Nat->EventD)(a b:Nat):Prop:=∀i j,a<=i->i<j->j<b->kLt (f i) (f j)
theorem Srt.le{f:Nat->EventD}{a b:Nat}(h:Srt f a b){i j:Nat}(h1:a<=i)(h2:i<=j)(h3:j<b):(f i).wall<=(f j).wall:=by
 by_cases e:i=j
 ·subst e;exact Int.le_refl _
 ·exact kLt_le (h i j h1 (by omega) h3)
def IdB(f:Nat->EventD)(a m b:Nat):Prop:=∀i j,a<=i->i<m->m<=j->j<b->(f i).id<(f j).id
def rotP(a m b k:Nat):Nat:=if a<=k/\k<a+(b-m)then m+(k-a)else if a+(b-m)<=k/\k<b then k-(b-m)else k
def rot(f:Nat->EventD)(a m b:Nat):Nat->EventD:=fun k=>f (rotP a m b k)
theorem rot_same{f:Nat->EventD}{a m b:Nat}(h1:a<=m)(h2:m<=b):Same a b f (rot f a m b):=by
 refine Same.by (rotP a m b) (rotP a (a+(b-m)) b) (fun _=>rfl) (fun k p q=>?_) (fun k hk=>?_) (fun k p q=>?_)
 ·unfold rotP;split<;>(try split)<;>omega
 ·unfold rotP;split<;>(try split)<;>omega
 ·unfold rotP;split<;>(try split)<;>(try split)<;>(try split)<;>omega
def swrP(a b n k:Nat):Nat:=if a<=k/\k<a+n then b+(k-a)else if b<=k/\k<b+n then a+(k-b)else k
def swr(f:Nat->EventD)(a b n:Nat):Nat->EventD:=fun k=>f (swrP a b n k)
theorem swr_step{f:Nat->EventD}{a b n:Nat}(h:a+n<b):swp (swr f a b n) (a+n) (b+n)=swr f a b (n+1):=by
 funext k
 unfold swp upd swr swrP
 by_cases e1:k=b+n
 ·subst e1
  rw[if_pos rfl,if_neg (by omega),if_neg (by omega),if_neg (by omega),if_pos (by omega)]
  congr 1;omega
 ·rw[if_neg e1]
  by_cases e2:k=a+n
  ·subst e2
   rw[if_pos rfl,if_neg (by omega),if_neg (by omega),if_pos (by omega)]
   congr 1;omega
  ·rw[if_neg e2]
   congr 1
   split<;>split<;>(try split)<;>(try split)<;>omega
theorem rot_left{f:Nat->EventD}{m i j:Nat}(h:j<i)(hm:i<=m):rot (swr f (m-i) m j) (m-i+j) m (m+j)=rot f (m-i) m (m+j):=by
 funext k
 unfold rot swr
 congr 1
 unfold rotP swrP
 repeat' split
 all_goals omega
theorem rot_right{f:Nat->EventD}{m i j:Nat}(h:i<j)(hm:i<=m):rot (swr f (m-i) (m+j-i) i) (m-i) m (m+(j-i))=rot f (m-i) m (m+j):=by
 funext k
 unfold rot swr
 congr 1
 unfold rotP swrP
 repeat' split
 all_goals omega
theorem rot_eq{f:Nat->EventD}{m i:Nat}(hm:i<=m):swr f (m-i) m i=rot f (m-i) m (m+i):=by
 funext k
 unfold rot swr
 congr 1
 unfold rotP swrP
 repeat' split
 all_goals omega
def insP(j i k:Nat):Nat:=if k=j then i else if j<k/\k<=i then k-1 else k
def ins(f:Nat->EventD)(j i:Nat):Nat->EventD:=fun k=>f (insP j i k)
theorem ins_none(f:Nat->EventD)(i:Nat):ins f i i=f:=by
 funext k
 unfold ins
 congr 1
 unfold insP
 repeat' split
 all_goals omega
theorem ins_step{f:Nat->EventD}{j i:Nat}(h:j<i):swp (ins f (j+1) i) (j+1) j=ins f j i:=by
 funext k
 unfold swp upd ins
 repeat' split
 all_goals (congr 1;unfold insP;repeat' split)
 all_goals omega
theorem ins_same{f:Nat->EventD}{a j i:Nat}(h1:a<=j)(h2:j<=i):Same a (i+1) f (ins f j i):=by
 refine Same.by (insP j i) (fun k=>if k=i then j else if j<=k/\k<i then k+1 else k) (fun _=>rfl) (fun k p q=>?_) (fun k hk=>?_) (fun k p q=>?_)
 all_goals unfold insP
 all_goals repeat' split
 all_goals omega
theorem ins_srt{f:Nat->EventD}{a j i:Nat}(hs:Srt f a i)(h1:a<=j)(h2:j<=i)(hb:∀k,j<=k->k<i->(f i).wall<(f k).wall)(ha:j=a\/(f (j-1)).wall<=(f i).wall)(hid:∀k,a<=k->k<i->(f k).id<(f i).id):Srt (ins f j i) a (i+1):=by
 intro x y hx gI hy
 unfold ins insP
 by_cases e1:x=j
 ·rw[if_pos e1,if_neg (by omega),if_pos (by omega)]
  exact .inl (hb (y-1) (by omega) (by omega))
 ·rw[if_neg e1]
  by_cases e2:y=j
  ·rw[if_pos e2,if_neg (by omega)]
   have h3:(f x).wall<=(f (j-1)).wall:=hs.le hx (by omega) (by omega)
   have h4:=hid x hx (by omega)
   have h5:(f (j-1)).wall<=(f i).wall:=ha.resolve_left (by omega)
   unfold kLt;omega
  ·rw[if_neg e2]
   split<;>split
   ·exact hs _ _ (by omega) (by omega) (by omega)
   ·omega
   ·exact hs _ _ (by omega) (by omega) (by omega)
   ·by_cases e3:y<i
    ·exact hs _ _ (by omega) gI e3
    ·omega
def mvuP(a e k:Nat):Nat:=if k=e then a else if a<=k/\k<e then k+1 else k
def mvu(f:Nat->EventD)(a e:Nat):Nat->EventD:=fun k=>f (mvuP a e k)
theorem mvu_none(f:Nat->EventD)(a:Nat):mvu f a a=f:=by
 funext k
 unfold mvu
 congr 1
 unfold mvuP
 repeat' split
 all_goals omega
theorem mvu_step{f:Nat->EventD}{a e:Nat}(h:a<=e):swp (mvu f a e) e (e+1)=mvu f a (e+1):=by
 funext k
 unfold swp upd mvu
 repeat' split
 all_goals (congr 1;unfold mvuP;repeat' split)
 all_goals omega
theorem mvu_same{f:Nat->EventD}{a e b:Nat}(h1:a<=e)(h2:e<b):Same a b f (mvu f a e):=by
 refine Same.by (mvuP a e) (fun k=>if k=a then e else if a<k/\k<=e then k-1 else k) (fun _=>rfl) (fun k p q=>?_) (fun k hk=>?_) (fun k p q=>?_)
 all_goals unfold mvuP
 all_goals repeat' split
 all_goals omega
theorem mvu_srt{f:Nat->EventD}{a e b:Nat}(hs:Srt f (a+1) b)(h1:a<=e)(h2:e<b)(hl:∀k,a+1<=k->k<e+1->(f k).wall<(f a).wall)(hg:∀k,e+1<=k->k<b->(f a).wall<=(f k).wall)(hid:IdB f a (a+1) b):Srt (mvu f a e) a b:=by
 intro x y hx gI hy
 unfold mvu mvuP
 by_cases e1:x=e
 ·rw[if_pos e1,if_neg (by omega),if_neg (by omega)]
  have h3:=hg y (by omega) hy
  have h4:=hid a y (by omega) (by omega) (by omega) hy
  unfold kLt;omega
 ·rw[if_neg e1]
  by_cases e2:y=e
  ·rw[if_pos e2,if_pos (by omega)]
   exact .inl (hl (x+1) (by omega) (by omega))
  ·rw[if_neg e2]
   split<;>split
   ·exact hs _ _ (by omega) (by omega) (by omega)
   ·exact hs _ _ (by omega) (by omega) (by omega)
   ·omega
   ·exact hs _ _ (by omega) (by omega) (by omega)
theorem rot_none{f:Nat->EventD}{a m b:Nat}(h:m<=a\/b<=m)(h1:a<=m)(h2:m<=b):rot f a m b=f:=by
 funext k
 unfold rot
 congr 1
 unfold rotP
 repeat' split
 all_goals omega
structure Parted(f:Nat->EventD)(a s mid e b:Nat):Prop where
 s1:Srt f a s
 s2:Srt f s mid
 s3:Srt f mid e
 s4:Srt f e b
 i1:IdB f a s mid
 i2:IdB f mid e b
 cross:∀i j,a<=i->i<mid->mid<=j->j<b->kLt (f i) (f j)
theorem parted{f:Nat->EventD}{a m b mid s:Nat}(h1:Srt f a m)(h2:Srt f m b)(hid:IdB f a m b)(q1:a<=s)(q2:s<=m)(q3:s<=mid)(q5:mid+m-s<=b)(hl:s=a\/mid+m-s=b\/(f (s-1)).wall<=(f (mid+m-s)).wall)(hg:s=m\/s=mid\/(f (mid+m-s-1)).wall<(f s).wall):Parted (rot f s m (mid+m-s)) a s mid (mid+m-s) b:=by
 have hv:∀k,rot f s m (mid+m-s) k=f (if s<=k/\k<mid then m+(k-s)else if mid<=k/\k<mid+m-s then k-(mid-s)else k):=fun k=>by
  unfold rot
  congr 1
  unfold rotP
  repeat' split
  all_goals omega
 refine⟨fun i j p q r=>?_,fun i j p q r=>?_,fun i j p q r=>?_,fun i j p q r=>?_,fun i j p q r t=>?_,fun i j p q r t=>?_,fun i j p q r t=>?_⟩
 ·rw[hv,hv,if_neg (by omega),if_neg (by omega),if_neg (by omega),if_neg (by omega)]
  exact h1 i j p q (by omega)
 ·rw[hv,hv,if_pos (by omega),if_pos (by omega)]
  exact h2 _ _ (by omega) (by omega) (by omega)
 ·rw[hv,hv,if_neg (by omega),if_pos (by omega),if_neg (by omega),if_pos (by omega)]
  exact h1 _ _ (by omega) (by omega) (by omega)
 ·rw[hv,hv,if_neg (by omega),if_neg (by omega),if_neg (by omega),if_neg (by omega)]
  exact h2 i j (by omega) q r
 ·rw[hv,hv,if_neg (by omega),if_neg (by omega),if_pos (by omega)]
  exact hid _ _ p (by omega) (by omega) (by omega)
 ·rw[hv,hv,if_neg (by omega),if_pos (by omega),if_neg (by omega),if_neg (by omega)]
  exact hid _ _ (by omega) (by omega) (by omega) t
 ·rw[hv,hv,if_neg (show ¬(s<=j/\j<mid) by omega)]
  by_cases c1:i<s
  ·rw[if_neg (by omega),if_neg (by omega)]
   by_cases c2:j<mid+m-s
   ·rw[if_pos (by omega)]
    exact h1 _ _ p (by omega) (by omega)
   ·rw[if_neg (by omega)]
    have t1:(f i).wall<=(f (s-1)).wall:=h1.le p (by omega) (by omega)
    have t2:(f (mid+m-s)).wall<=(f j).wall:=h2.le (by omega) (by omega) t
    have t3:=hid i j p (by omega) (by omega) t
    have t4:(f (s-1)).wall<=(f (mid+m-s)).wall:=(hl.resolve_left (by omega)).resolve_left (by omega)
    unfold kLt;omega
  ·rw[if_pos (by omega)]
   by_cases c2:j<mid+m-s
   ·rw[if_pos (by omega)]
    have t1:(f (m+(i-s))).wall<=(f (mid+m-s-1)).wall:=h2.le (by omega) (by omega) (by omega)
    have t2:(f s).wall<=(f (j-(mid-s))).wall:=h1.le q1 (by omega) (by omega)
    have t4:=(hg.resolve_left (by omega)).resolve_left (by omega)
    unfold kLt;omega
   ·rw[if_neg (by omega)]
    exact h2 _ _ (by omega) (by omega) t
theorem joined{f g h:Nat->EventD}{a mid b:Nat}(h1:Same a mid f g)(h2:Same mid b g h)(s1:Srt g a mid)(s2:Srt h mid b)(hc:∀i j,a<=i->i<mid->mid<=j->j<b->kLt (f i) (f j)):Srt h a b:=by
 intro x y hx gI hy
 by_cases c1:y<mid
 ·rw[h2.out x (.inl (by omega)),h2.out y (.inl c1)]
  exact s1 x y hx gI c1
 ·by_cases c2:x<mid
  ·obtain⟨j,j1,j2,e⟩:=h2.sup y (by omega) hy
   obtain⟨i,i1,i2,e2⟩:=h1.sup x hx c2
   rw[h2.out x (.inl c2),e,e2,h1.out j (.inr j1)]
   exact hc i j i1 i2 j1 j2
  ·exact s2 x y (by omega) gI hy
theorem IdB.same{f g:Nat->EventD}{a m b c d:Nat}(h:IdB f a m b)(hs:Same c d f g)(P3:(a<=c/\d<=m)\/(m<=c/\d<=b)\/d<=a\/b<=c):IdB g a m b:=by
 intro i j p q r t
 have k1:∃i',a<=i'/\i'<m/\g i=f i':=by
  by_cases c1:c<=i/\i<d
  ·obtain⟨i',p1,p2,e⟩:=hs.sup i c1.1 c1.2
   exact⟨i',by omega,by omega,e⟩
  ·exact⟨i,p,q,hs.out i (by omega)⟩
 have k2:∃j',m<=j'/\j'<b/\g j=f j':=by
  by_cases c1:c<=j/\j<d
  ·obtain⟨j',p1,p2,e⟩:=hs.sup j c1.1 c1.2
   exact⟨j',by omega,by omega,e⟩
  ·exact⟨j,r,t,hs.out j (by omega)⟩
 obtain⟨i',p1,p2,e⟩:=k1
 obtain⟨j',p3,p4,e2⟩:=k2
 rw[e,e2]
 exact h i' j' p1 p2 p3 p4
theorem Srt.same{f g:Nat->EventD}{a b c d:Nat}(h:Srt f a b)(hs:Same c d f g)(P3:d<=a\/b<=c):Srt g a b:=fun i j p q r=>by
 rw[hs.out i (by omega),hs.out j (by omega)]
 exact h i j p q r
theorem hid0{p:Prop}(h:p):Hid p:=h
def RowF(w:World)(base g cap n:Nat)(f:Nat->EventD):Prop:=Jb w base (so g n cap) (lf n f)
theorem RowF.below{w w':World}{base g cap n:Nat}{f:Nat->EventD}(h:RowF w base g cap n f)(hb:Bw w w'):RowF w' base g cap n f:=Jb.below h hb
theorem RowF.row{w:World}{base g cap n:Nat}{f:Nat->EventD}(h:RowF w base g cap n f):w.ownsRow base 55 6 (so g n cap) n ((lf n f).map EventD.cs).flatten:=by
 have h2:=h
 unfold RowF Jb at h2
 rw[lf_len]at h2
 exact h2
theorem RowF.ge{w:World}{base g cap n:Nat}{f:Nat->EventD}(h:RowF w base g cap n f):base<=g:=(World.ownsRow.lt h.row g rfl).1
theorem RowF.free{w:World}{base g cap n:Nat}{f:Nat->EventD}(h:RowF w base g cap n f)(i:Nat):w.frozen? (ad g (i*6))=false/\w.frozen? (ad g (i*6+1))=false/\w.frozen? (ad g (i*6+2))=false/\w.frozen? (ad g (i*6+3))=false/\w.frozen? (ad g (i*6+4))=false/\w.frozen? (ad g (i*6+5))=false:=⟨h.row.frozenAt _,h.row.frozenAt _,h.row.frozenAt _,h.row.frozenAt _,h.row.frozenAt _,h.row.frozenAt _⟩
theorem RowF.put{w:World}{base g cap n:Nat}{f:Nat->EventD}(h:RowF w base g cap n f){i:Nat}(hi:i<n)(y:EventD):RowF (w.setCells g (i*6) y.cs) base g cap n (upd f i y):=by
 have:=Jb.put h (lf_len n f).symm i hi y
 rw[lf_set]at this
 exact this
theorem RowF.swap{w:World}{base g cap n:Nat}{f:Nat->EventD}(h:RowF w base g cap n f){i j:Nat}(hi:i<n)(hj:j<n):RowF ((w.setCells g (i*6) (f j).cs).setCells g (j*6) (f i).cs) base g cap n (swp f i j):=(h.put hi (f j)).put hj (f i)
theorem row_sets{w0 w:World}{base g o:Nat}(h:Below base w0 w)(hg:base<=g)(y:EventD):Below base w0 (w.setCells g o y.cs):=jev hg y.cs o w0 w h
theorem bel_drew{base:Nat}{w0 w:World}(h:Below base w0 w):Below base w0 w.drew:=⟨h.os,h.tape,h.output,h.size,h.block⟩
theorem swr_zero(f:Nat->EventD)(a b:Nat):swr f a b 0=f:=by
 funext k
 unfold swr
 congr 1
 unfold swrP
 repeat' split
 all_goals omega
theorem ev_swapRange{F:Nat}(f:Nat->EventD)(base g cap n a b m:Nat)(w:World)(h:RowF w base g cap n f)(h1:a+m<=b)(h2:b+m<=n)(hn:n<=1000):
  Cl 182 #[so g n cap,iv a,iv b,iv m,.func (.func F) #[] #[]] w fun e w'=>e=.returned (.tuple #[])/\RowF w' base g cap n (swr f a b m)/\Below base w w':=by
 have hg:=h.ge
 have HH:=hid0 h
 clear h
 unfold Cl;go_in
 go_wp2
 go_loopw [10] (fun s wr=>∃k:Nat,s=iv k/\k<=m/\Hid (RowF wr base g cap n (swr f a b k))/\Hid (Below base w wr)) (fun s _=>m-(intOf s).toNat)
 case atStart=>exact⟨0,rfl,by omega,by rw[swr_zero];exact HH,brf _ _⟩
 case round=>
  obtain⟨wa,dS⟩:=qea wr
  subst dS
  obtain⟨k,rfl,hk,HR,HB⟩:=hrel
  clear HH
  by_cases hlt:k<m
  ·have hR:=HR.out
   have HS:Hid (RowF ((wa.setCells g ((a+k)*6) (swr f a b k (b+k)).cs).setCells g ((b+k)*6) (swr f a b k (a+k)).cs) base g cap n (swr f a b (k+1))):=by
    simp only[Hid]
    rw[<- swr_step (by omega)]
    exact hR.swap (by omega) (by omega)
   have jI:Hid (Below base w ((wa.setCells g ((a+k)*6) (swr f a b k (b+k)).cs).setCells g ((b+k)*6) (swr f a b k (a+k)).cs)):=row_sets (row_sets HB.out hg _) hg _
   generalize hu:a+k=u at *
   generalize hv:b+k=v at *
   have e1:(a:Int)+(k:Int)=(u:Int):=by omega
   have e2:(b:Int)+(k:Int)=(v:Int):=by omega
   have i1:(u:Int)<(n:Int):=by omega
   have i2:(v:Int)<(n:Int):=by omega
   have i3:(0:Int)<=(u:Int):=by omega
   have i4:(0:Int)<=(v:Int):=by omega
   obtain⟨c0,c1,c2,c3,c4,c5⟩:=jf0 hR (lf_at (show u<n by omega))
   obtain⟨d0,d1,d2,d3,d4,d5⟩:=jf0 hR (lf_at (show v<n by omega))
   obtain⟨f0,f1,f2,f3,f4,f5⟩:=hR.free u
   obtain⟨g0,g1,g2,g3,g4,g5⟩:=hR.free v
   generalize swr f a b k u=x at *
   generalize swr f a b k v=y at *
   have z:=(hR.put (show u<n by omega) y).free v
   have hP:=hR.put (show u<n by omega) y
   obtain⟨p0,p1,p2,p3,p4,p5⟩:=jf0 hP (lf_at (show v<n by omega))
   obtain⟨z0,z1,z2,z3,z4,z5⟩:=z
   simp only[World.setCells,EventD.cs,Nat.add_assoc,Nat.reduceAdd]at p0 p1 p2 p3 p4 p5 z0 z1 z2 z3 z4 z5
   clear hR hP HR
   go_wp2_with fail
   go_region
   go_wp2
   go_roundw
   case rel=>exact⟨k+1,by go_num,by omega,HS.out.below (jab _),bel_drew jI.out⟩
   case measure=>simp[intOf];omega
  ·obtain rfl:k=m:=by omega
   have j1:¬(k:Int)<(k:Int):=by omega
   go_wp2
   exact bodyPost_end (results_none Tryz.results182 _ _ _) rfl ⟨rfl,HR.out,HB.out⟩
theorem ev_rotate{F:Nat}(f:Nat->EventD)(base g cap n a m b:Nat)(w:World)(h:RowF w base g cap n f)(h1:a<m)(h2:m<b)(h3:b<=n)(hn:n<=1000):
  Cl 145 #[so g n cap,iv a,iv m,iv b,.func (.func F) #[] #[]] w fun e w'=>e=.returned (.tuple #[])/\RowF w' base g cap n (rot f a m b)/\Below base w w':=by
 have HH:=hid0 h
 clear h
 unfold Cl;go_in
 go_wp2
 go_loopw [10,11] (fun s t wr=>∃(i j:Nat) (f2:Nat->EventD),s=iv i/\t=iv j/\(1<=i/\1<=j/\a<=m-i/\i<=m/\m+j<=b)/\Hid (rot f2 (m-i) m (m+j)=rot f a m b)/\Hid (RowF wr base g cap n f2)/\Hid (Below base w wr)) (fun s t _=>(intOf s).toNat+(intOf t).toNat)
 case atStart=>exact⟨m-a,b-m,f,by go_num,by go_num,by omega,by simp only[Hid];rw[show m-(m-a)=a by omega,show m+(b-m)=b by omega],HH,brf _ _⟩
 case round=>
  obtain⟨wa,dS⟩:=qea wr
  subst dS
  obtain⟨i,j,f2,rfl,rfl,eF,HE,HR,HB⟩:=hrel
  clear HH
  have e1:(m:Int)-(i:Int)=((m-i:Nat):Int):=by omega
  rcases Nat.lt_trichotomy j i with hlt|heq|OV
  ·have hC:=ev_swapRange (F:=F) f2 base g cap n (m-i) m j wa HR.out (by omega) (by omega) hn
   have g1:((i:Int)==(j:Int))=false:=by simp;omega
   have g2:(j:Int)<(i:Int):=by omega
   have lc:Hid (rot (swr f2 (m-i) m j) (m-(i-j)) m (m+j)=rot f a m b):=by
    simp only[Hid]
    rw[show m-(i-j)=m-i+j by omega,rot_left hlt (by omega)]
    exact HE.out
   clear HE HR
   go_wp2_with fail
   refine hC.mono ?_
   rintro e w2 ⟨rfl,aM,an⟩
   have lh:=hid0 aM
   have jI:=hid0 (HB.out.trans an)
   clear aM an hC
   go_wp2
   go_roundw
   case rel=>exact⟨i-j,j,_,by go_num,rfl,by omega,lc,lh,jI⟩
   case measure=>simp[intOf];omega
  ·subst heq
   have hC:=ev_swapRange (F:=F) f2 base g cap n (m-j) m j wa HR.out (by omega) (by omega) hn
   rw[rot_eq (by omega),HE.out]at hC
   clear HE HR
   go_wp2_with fail
   refine hC.mono ?_
   rintro e w2 ⟨rfl,aM,an⟩
   have lh:=hid0 aM
   have jI:=hid0 (HB.out.trans an)
   clear aM an hC
   go_wp2
   exact bodyPost_end (results_none Tryz.results145 _ _ _) rfl ⟨rfl,lh.out,jI.out⟩
  ·have e2:(m:Int)+(j:Int)-(i:Int)=((m+j-i:Nat):Int):=by omega
   have hC:=ev_swapRange (F:=F) f2 base g cap n (m-i) (m+j-i) i wa HR.out (by omega) (by omega) hn
   have g1:((i:Int)==(j:Int))=false:=by simp;omega
   have g2:¬(j:Int)<(i:Int):=by omega
   have lc:Hid (rot (swr f2 (m-i) (m+j-i) i) (m-i) m (m+(j-i))=rot f a m b):=by
    simp only[Hid]
    rw[rot_right OV (by omega)]
    exact HE.out
   clear HE HR
   go_wp2_with fail
   refine hC.mono ?_
   rintro e w2 ⟨rfl,aM,an⟩
   have lh:=hid0 aM
   have jI:=hid0 (HB.out.trans an)
   clear aM an hC
   go_wp2
   go_roundw
   case rel=>exact⟨i,j-i,_,rfl,by go_num,by omega,lc,lh,jI⟩
   case measure=>simp[intOf];omega
def cmpW(x y:EventD):Int:=if x.wall<y.wall then -1 else if y.wall<x.wall then 1 else 0
structure CmpK:Prop where
 call:∀(x y:EventD) W,Cl 26 #[x.v,y.v] W fun e W'=>e=.returned (iv (cmpW x y))/\Bw W W'
theorem cmpW_lt{x y:EventD}(h:x.wall<y.wall):cmpW x y= -1:=if_pos h
theorem cmpW_ge{x y:EventD}(h:¬x.wall<y.wall):¬cmpW x y<0:=by unfold cmpW;rw[if_neg h];split<;>omega
theorem bel_mono{base:Nat}{w0 w w':World}(h:Below base w0 w)(hb:Bw w w')(hw:base<=w0.heap.size):Below base w0 w':=h.trans (hb.mono (Nat.le_trans hw h.size))
theorem bel_nq(w:World)(n:Nat):Bw w (w.drewN n):=⟨rfl,rfl,rfl,nlr _,fun _ _=>rfl⟩
theorem bel_nq2{base:Nat}{w0 w:World}(n:Nat)(h:Below base w0 w):Below base w0 (w.drewN n):=⟨h.os,h.tape,h.output,h.size,h.block⟩
theorem ev_insertion(hF:CmpK)(f:Nat->EventD)(base g cap n a b:Nat)(w:World)(h:RowF w base g cap n f)(hb:base<=w.heap.size)(h1:a<=b)(h2:b<=n)(hn:n<=1000)(hid:∀i j,a<=i->i<j->j<b->(f i).id<(f j).id):
  Cl 102 #[so g n cap,iv a,iv b,.func (.func 26) #[] #[]] w fun e w'=>e=.returned (.tuple #[])/\(∃f2,RowF w' base g cap n f2/\Same a b f f2/\Srt f2 a b)/\Below base w w':=by
 have hg:=h.ge
 have HH:=hid0 h
 have HI:=hid0 hid
 clear h hid
 unfold Cl;go_in
 go_wp2
 go_loopw [8,9] (fun s _ wr=>∃(i:Nat) (f2:Nat->EventD),s=iv i/\(a+1<=i/\(i<=b\/i=a+1))/\Hid (RowF wr base g cap n f2)/\Hid (Same a i f f2)/\Hid (Srt f2 a i)/\Hid (Below base w wr)) (fun s _ _=>b-(intOf s).toNat)
 case atStart=>exact⟨a+1,f,by go_num,by omega,HH,Same.refl _ _ _,fun i j p q r=>by omega,brf _ _⟩
 case round=>
  obtain⟨wa,dS⟩:=qea wr
  subst dS
  obtain⟨i,f2,rfl,hi,HR,HS,HT,HB⟩:=hrel
  clear HH
  by_cases hlt:i<b
  ·have HD:Hid (∀k,a<=k->k<i->(f2 k).id<(f2 i).id):=fun k p q=>by
    obtain⟨k2,p1,p2,e⟩:=HS.out.sup k p q
    rw[e,HS.out.out i (.inr (nlr _))]
    exact HI.out k2 i p1 p2 hlt
   have i1:(i:Int)<(b:Int):=by omega
   go_wp2
   go_loopw [9] (fun s wr=>∃j:Nat,s=iv j/\(a<=j/\j<=i)/\Hid (RowF wr base g cap n (ins f2 j i))/\Hid (∀k,j<=k->k<i->(f2 i).wall<(f2 k).wall)/\Hid (Below base w wr)) (fun s _=>(intOf s).toNat)
   case atStart=>exact⟨i,rfl,by omega,by rw[ins_none];exact HR,fun k p q=>by omega,HB⟩
   case round=>
    obtain⟨wb,mQ⟩:=qea wr
    subst mQ
    obtain⟨j,rfl,hj,H7,HW,PV⟩:=hrel
    clear HR HB
    have HF:Hid (∀f3,f3=ins f2 j i->(j=a\/(f2 (j-1)).wall<=(f2 i).wall)->Same a (i+1) f f3/\Srt f3 a (i+1)):=fun f3 e ha=>by
     subst e
     exact⟨(HS.out.wide (nlr _) (by omega)).trans (ins_same hj.1 hj.2),ins_srt HT.out hj.1 hj.2 HW.out ha HD.out⟩
    by_cases Kd:a<j
    ·have j1:(a:Int)<(j:Int):=by omega
     have j2:(j:Int)<(n:Int):=by omega
     have j3:(0:Int)<=(j:Int):=by omega
     obtain⟨q,hq⟩:∃q,j=q+1:=⟨j-1,by omega⟩
     have Sx:q<j:=by omega
     have Kx:j<=q+1:=by omega
     have HQ:=hid0 hq
     clear hq
     have e1:(j:Int)-1=(q:Int):=by omega
     have q2:(q:Int)<(n:Int):=by omega
     have q3:(0:Int)<=(q:Int):=by omega
     have qQ:IntKind.i64.wrap (q:Int)=(q:Int):=by rw[IntKind.wrap_i64];omega
     have hR:=H7.out
     have hx:ins f2 j i j=f2 i:=by unfold ins insP;rw[if_pos rfl]
     have hy:ins f2 j i q=f2 q:=by unfold ins insP;rw[if_neg (by omega),if_neg (by omega)]
     obtain⟨c0,c1,c2,c3,c4,c5⟩:=jf0 hR (lf_at (show j<n by omega))
     obtain⟨d0,d1,d2,d3,d4,d5⟩:=jf0 hR (lf_at (show q<n by omega))
     rw[hx]at c0 c1 c2 c3 c4 c5
     rw[hy]at d0 d1 d2 d3 d4 d5
     have hA:=fun W=>hF.call (f2 i) (f2 q) W
     simp only[EventD.v]at hA
     have lS:=hid0 (And.intro hx hy)
     have ga:decide (a<j)=true:=dte Kd
     have U1:decide ((a:Int)<(j:Int))=true:=dte j1
     have k0:=cell_regrown c0
     have l0:=cell_regrown d0
     have k1:=cell_regrown c1
     have l1:=cell_regrown d1
     have k2:=cell_regrown c2
     have l2:=cell_regrown d2
     have k3:=cell_regrown c3
     have l3:=cell_regrown d3
     have k4:=cell_regrown c4
     have l4:=cell_regrown d4
     have k5:=cell_regrown c5
     have l5:=cell_regrown d5
     clear hR hx hy c0 c1 c2 c3 c4 c5 d0 d1 d2 d3 d4 d5
     by_cases hw:(f2 i).wall<(f2 q).wall
     ·rw[cmpW_lt hw]at hA
      have cE:∀dd os,Cl _ _ (grow (redrawn wb dd) os) fun e cW=>e=.returned (iv (-1))/\∃p:Regrown,cW=grow (redrawn wb p.d) p.os:=fun _ _=>Calls.regrown_of (hA _)
      go_wp2_with fail
      refine wp_region_quiet_below (by kernel_rfl) (by kernel_rfl) ?_
      repeat (quiet_step ((go_at_call 26;exact cE _ _)))
      refine wpQuiet_nil ?_
      intro wc gm
      obtain⟨⟨dq,aQ⟩,cJ⟩:=gm
      have ww:Bw wb wc:=cJ ▸ below_regrown wb dq aQ
      have aM:=H7.out.below ww
      have jI:=hid0 (bel_mono PV.out ww hb)
      clear k0 l0 k1 l1 k2 l2 k3 l3 k4 l4 k5 l5 hA cE ww cJ H7
      obtain⟨c0,c1,c2,c3,c4,c5⟩:=jf0 aM (lf_at (show j<n by omega))
      obtain⟨d0,d1,d2,d3,d4,d5⟩:=jf0 aM (lf_at (show q<n by omega))
      obtain⟨f0,f1,SZ,f3,f4,f5⟩:=aM.free j
      obtain⟨g0,g1,g2,g3,g4,g5⟩:=aM.free q
      have hP:=aM.put (show j<n by omega) (f2 q)
      obtain⟨p0,p1,p2,p3,p4,p5⟩:=jf0 hP (lf_at (show q<n by omega))
      obtain⟨z0,z1,z2,z3,z4,z5⟩:=hP.free q
      have jM:Hid (RowF ((wc.setCells g (j*6) (f2 q).cs).setCells g (q*6) (f2 i).cs) base g cap n (ins f2 q i)):=by
       have h:=aM.swap (show j<n by omega) (show q<n by omega)
       rw[lS.out.1,lS.out.2,HQ.out,ins_step (by omega)]at h
       rw[HQ.out]
       exact h
      have Hg:=hid0 (row_sets (o:=q*6) (row_sets (o:=j*6) jI.out hg (f2 q)) hg (f2 i))
      rw[lS.out.1]at c0 c1 c2 c3 c4 c5
      rw[lS.out.2]at d0 d1 d2 d3 d4 d5
      have Ib:Hid (∀k,q<=k->k<i->(f2 i).wall<(f2 k).wall):=fun k p1 p2=>by
       by_cases e:k=q
       ·subst e;exact hw
       ·exact HW.out k (by omega) p2
      simp only[World.setCells,EventD.cs,Nat.add_assoc,Nat.reduceAdd]at p0 p1 p2 p3 p4 p5 z0 z1 z2 z3 z4 z5
      clear aM hP lS HF HW hw
      go_wp2_with fail
      go_region
      go_wp2
      go_roundw
      case rel=>exact⟨q,by go_num,by omega,jM.out.below (jab _),Ib,bel_drew Hg.out⟩
      case measure=>simp[intOf];omega
     ·have FQ:=cmpW_ge hw
      generalize cmpW (f2 i) (f2 q)=c at *
      have P3:decide (c<0)=false:=dfe FQ
      have cE:∀dd os,Cl _ _ (grow (redrawn wb dd) os) fun e cW=>e=.returned (iv c)/\∃p:Regrown,cW=grow (redrawn wb p.d) p.os:=fun _ _=>Calls.regrown_of (hA _)
      obtain⟨qf,eO⟩:=HF.out _ rfl (.inr (by rw[show j-1=q by omega];omega))
      have jM:=hid0 qf
      have Ex:=hid0 eO
      clear qf eO
      go_wp2_with fail
      refine wp_region_quiet_below (by kernel_rfl) (by kernel_rfl) ?_
      repeat (quiet_step ((go_at_call 26;exact cE _ _)))
      refine wpQuiet_nil ?_
      intro wc gm
      obtain⟨⟨dq,aQ⟩,cJ⟩:=gm
      have ww:Bw wb wc:=cJ ▸ below_regrown wb dq aQ
      have lh:=hid0 (H7.out.below ww)
      have jI:=hid0 (bel_mono PV.out ww hb)
      clear k0 l0 k1 l1 k2 l2 k3 l3 k4 l4 k5 l5 hA cE ww cJ
      go_wp2
      go_roundw
      case rel=>exact⟨i+1,_,by go_num,by omega,lh,jM,Ex,jI⟩
      case measure=>simp[intOf];omega
    ·obtain rfl:j=a:=by omega
     obtain⟨qf,eO⟩:=HF.out _ rfl (.inl rfl)
     have jM:=hid0 qf
     have Ex:=hid0 eO
     have j1:¬(j:Int)<(j:Int):=by omega
     clear qf eO
     go_wp2_with fail
     go_quiet (fail)
     go_wp2
     go_roundw
     case rel=>exact⟨i+1,_,by go_num,by omega,H7.out.below (bel_nq _ _),jM,Ex,bel_nq2 _ PV.out⟩
     case measure=>simp[intOf];omega
  ·have i1:¬(i:Int)<(b:Int):=by omega
   have HE:Hid (Same a b f f2/\Srt f2 a b):=by
    by_cases e:i=b
    ·subst e;exact⟨HS.out,HT.out⟩
    ·obtain⟨rfl,rfl⟩:i=a+1/\b=a:=by omega
     refine⟨⟨fun k hk=>?_,fun k p q=>by omega,fun k p q=>by omega⟩,fun x y p q r=>by omega⟩
     by_cases e2:k=b
     ·subst e2
      obtain⟨i,p1,p2,e3⟩:=HS.out.sup k (by omega) (by omega)
      rw[e3,show i=k by omega]
     ·exact HS.out.out k (by omega)
   go_wp2
   exact bodyPost_end (results_none Tryz.results102 _ _ _) rfl ⟨rfl,⟨f2,HR.out,HE.out.1,HE.out.2⟩,HB.out⟩
structure MrgP(base g cap n a b:Nat)(f:Nat->EventD)(w:World)(e:Ending)(w':World):Prop where
 end_:e=.returned (.tuple #[])
 ex:∃f2,RowF w' base g cap n f2/\Same a b f f2/\Srt f2 a b
 bel:Below base w w'
theorem sym_one(hF:CmpK)(f:Nat->EventD)(base g cap n a m b:Nat)(w:World)(h:RowF w base g cap n f)(hb:base<=w.heap.size)(h1:a<m)(h2:m<b)(h3:b<=n)(hn:n<=1000)(s2:Srt f m b)(hid:IdB f a m b)(hm:m=a+1):
  Cl 103 #[so g n cap,iv a,iv m,iv b,.func (.func 26) #[] #[]] w (MrgP base g cap n a b f w):=by
 have hg:=h.ge
 have HH:=hid0 h
 have e0:(m:Int)-(a:Int)=1:=by omega
 have Ss:a<m:=by omega
 have St:m<=a+1:=by omega
 have HM:=hid0 hm
 have jM:=hid0 s2
 have HI:=hid0 hid
 clear h s2 hid hm
 unfold Cl;go_in
 go_wp2
 go_loopw [10,11,12] (fun s t _ wr=>∃i j:Nat,s=iv i/\t=iv j/\(m<=i/\i<=j/\j<=b)/\Hid (∀k,m<=k->k<i->(f k).wall<(f a).wall)/\Hid (∀k,j<=k->k<b->(f a).wall<=(f k).wall)/\Hid (RowF wr base g cap n f)/\Hid (Below base w wr)) (fun s t _ _=>(intOf t).toNat-(intOf s).toNat)
 case atStart=>exact⟨m,b,rfl,rfl,by omega,fun k p q=>by omega,fun k p q=>by omega,HH,brf _ _⟩
 case round=>
  obtain⟨wa,dS⟩:=qea wr
  subst dS
  obtain⟨i,j,rfl,rfl,eF,HL,HG,HR,HB⟩:=hrel
  clear HH
  by_cases hlt:i<j
  ·have i1:(i:Int)<(j:Int):=by omega
   obtain⟨c,hc⟩:=qeb ((i+j) / 2)
   have ec:((i:Int)+(j:Int)) / 2=(c:Int):=by omega
   have aX:i<=c:=by omega
   have cU:c<j:=by omega
   have c1:(c:Int)<(n:Int):=by omega
   have c2:(0:Int)<=(c:Int):=by omega
   have a1:(a:Int)<(n:Int):=by omega
   have a2:(0:Int)<=(a:Int):=by omega
   clear hc
   obtain⟨c0,c1,c2,c3,c4,c5⟩:=jf0 HR.out (lf_at (show c<n by omega))
   obtain⟨d0,d1,d2,d3,d4,d5⟩:=jf0 HR.out (lf_at (show a<n by omega))
   have k0:=cell_regrown c0
   have k1:=cell_regrown c1
   have k2:=cell_regrown c2
   have k3:=cell_regrown c3
   have k4:=cell_regrown c4
   have k5:=cell_regrown c5
   have l0:=cell_regrown d0
   have l1:=cell_regrown d1
   have l2:=cell_regrown d2
   have l3:=cell_regrown d3
   have l4:=cell_regrown d4
   have l5:=cell_regrown d5
   have hA:=fun W=>hF.call (f c) (f a) W
   simp only[EventD.v]at hA
   clear c0 c1 c2 c3 c4 c5 d0 d1 d2 d3 d4 d5
   by_cases hw:(f c).wall<(f a).wall
   ·have js:Hid (∀k,m<=k->k<c+1->(f k).wall<(f a).wall):=fun k p q=>by
     have:=jM.out.le p (show k<=c by omega) (by omega)
     omega
    rw[cmpW_lt hw]at hA
    have cE:∀dd os,Cl _ _ (grow (redrawn wa dd) os) fun e cW=>e=.returned (iv (-1))/\∃p:Regrown,cW=grow (redrawn wa p.d) p.os:=fun _ _=>Calls.regrown_of (hA _)
    go_wp2_with fail
    refine wp_region_quiet_below (by kernel_rfl) (by kernel_rfl) ?_
    repeat (quiet_step ((go_at_call 26;exact cE _ _)))
    refine wpQuiet_nil ?_
    intro wc gm
    obtain⟨⟨dq,aQ⟩,cJ⟩:=gm
    have ww:Bw wa wc:=cJ ▸ below_regrown wa dq aQ
    have lh:=hid0 (HR.out.below ww)
    have jI:=hid0 (bel_mono HB.out ww hb)
    clear k0 l0 k1 l1 k2 l2 k3 l3 k4 l4 k5 l5 hA cE ww cJ
    go_wp2
    go_roundw
    case rel=>exact⟨c+1,j,by go_num,rfl,by omega,js,HG,lh,jI⟩
    case measure=>simp[intOf];omega
   ·have jK:Hid (∀k,c<=k->k<b->(f a).wall<=(f k).wall):=fun k p q=>by
     have:=jM.out.le (show m<=c by omega) p q
     omega
    have FQ:=cmpW_ge hw
    generalize cmpW (f c) (f a)=z at *
    have P3:decide (z<0)=false:=dfe FQ
    have cE:∀dd os,Cl _ _ (grow (redrawn wa dd) os) fun e cW=>e=.returned (iv z)/\∃p:Regrown,cW=grow (redrawn wa p.d) p.os:=fun _ _=>Calls.regrown_of (hA _)
    go_wp2_with fail
    refine wp_region_quiet_below (by kernel_rfl) (by kernel_rfl) ?_
    repeat (quiet_step ((go_at_call 26;exact cE _ _)))
    refine wpQuiet_nil ?_
    intro wc gm
    obtain⟨⟨dq,aQ⟩,cJ⟩:=gm
    have ww:Bw wa wc:=cJ ▸ below_regrown wa dq aQ
    have lh:=hid0 (HR.out.below ww)
    have jI:=hid0 (bel_mono HB.out ww hb)
    clear k0 l0 k1 l1 k2 l2 k3 l3 k4 l4 k5 l5 hA cE ww cJ
    go_wp2
    go_roundw
    case rel=>exact⟨i,c,rfl,rfl,by omega,HL,jK,lh,jI⟩
    case measure=>simp[intOf];omega
  ·obtain⟨p,hp⟩:∃p,i=p+1:=⟨i-1,by omega⟩
   have sI:p<i:=by omega
   have Ge:i<=p+1:=by omega
   have ep:(i:Int)-1=(p:Int):=by omega
   have Px:¬(i:Int)<(j:Int):=by omega
   have HE:Hid (Same a b f (mvu f a p)/\Srt (mvu f a p) a b):=⟨mvu_same (by omega) (by omega),mvu_srt (HM.out ▸ jM.out) (by omega) (by omega) (fun k q1 q2=>HL.out k (by omega) (by omega)) (fun k q1 q2=>HG.out k (by omega) q2) (HM.out ▸ HI.out)⟩
   clear hp
   go_wp2
   go_loopw [13] (fun s wr=>∃k:Nat,s=iv k/\(a<=k/\k<=p)/\Hid (RowF wr base g cap n (mvu f a k))/\Hid (Below base w wr)) (fun s _=>p-(intOf s).toNat)
   case atStart=>exact⟨a,rfl,by omega,by rw[mvu_none];exact HR,HB⟩
   case round=>
    clear HR HB
    obtain⟨wa,dS⟩:=qea wr
    subst dS
    obtain⟨k,rfl,hk,HR,HB⟩:=hrel
    by_cases So:k<p
    ·have k1:(k:Int)<(p:Int):=by omega
     obtain⟨v,hv⟩:=qeb (k+1)
     have ev:(k:Int)+1=(v:Int):=by omega
     have v1:(v:Int)<(n:Int):=by omega
     have v2:(0:Int)<=(v:Int):=by omega
     have k2:(k:Int)<(n:Int):=by omega
     have k3:(0:Int)<=(k:Int):=by omega
     have ej:v<=k+1:=by omega
     have eQ:k<v:=by omega
     have HV:=hid0 hv
     clear hv
     have hR:=HR.out
     have jM:Hid (RowF ((wa.setCells g (k*6) (mvu f a k v).cs).setCells g (v*6) (mvu f a k k).cs) base g cap n (mvu f a v)):=by
      have h:=hR.swap (show k<n by omega) (show v<n by omega)
      rw[<- HV.out,mvu_step hk.1]at h
      rw[<- HV.out]
      exact h
     have Hg:=hid0 (row_sets (o:=v*6) (row_sets (o:=k*6) HB.out hg (mvu f a k v)) hg (mvu f a k k))
     obtain⟨c0,c1,c2,c3,c4,c5⟩:=jf0 hR (lf_at (show k<n by omega))
     obtain⟨d0,d1,d2,d3,d4,d5⟩:=jf0 hR (lf_at (show v<n by omega))
     obtain⟨f0,f1,f2,f3,f4,f5⟩:=hR.free k
     obtain⟨g0,g1,g2,g3,g4,g5⟩:=hR.free v
     have hP:=hR.put (show k<n by omega) (mvu f a k v)
     obtain⟨p0,p1,p2,p3,p4,p5⟩:=jf0 hP (lf_at (show v<n by omega))
     obtain⟨z0,z1,z2,z3,z4,z5⟩:=hP.free v
     generalize mvu f a k v=y at *
     generalize mvu f a k k=x at *
     simp only[World.setCells,EventD.cs,Nat.add_assoc,Nat.reduceAdd]at p0 p1 p2 p3 p4 p5 z0 z1 z2 z3 z4 z5
     clear hR hP HR
     go_wp2_with fail
     go_region
     go_wp2
     go_roundw
     case rel=>exact⟨v,by go_num,by omega,jM.out.below (jab _),bel_drew Hg.out⟩
     case measure=>simp[intOf];omega
    ·have k1:¬(k:Int)<(p:Int):=by omega
     obtain rfl:k=p:=by omega
     go_wp2
     exact bpr (results_none Tryz.results103 _ _ _) rfl ⟨rfl,⟨_,HR.out,HE.out.1,HE.out.2⟩,HB.out⟩
theorem sym_two(hF:CmpK)(f:Nat->EventD)(base g cap n a m b:Nat)(w:World)(h:RowF w base g cap n f)(hb:base<=w.heap.size)(h2:m<b)(h3:b<=n)(hn:n<=1000)(s1:Srt f a m)(hid:IdB f a m b)(Ss:a+1<m)(hm:b=m+1):
  Cl 103 #[so g n cap,iv a,iv m,iv b,.func (.func 26) #[] #[]] w (MrgP base g cap n a b f w):=by
 have hg:=h.ge
 have HH:=hid0 h
 have e0:((m:Int)-(a:Int)==1)=false:=by simp;omega
 have e1:(b:Int)-(m:Int)=1:=by omega
 have Su:m<b:=by omega
 have Sv:b<=m+1:=by omega
 have HM:=hid0 hm
 have I1:=hid0 s1
 have HI:=hid0 hid
 clear h s1 hid hm
 unfold Cl;go_in
 go_wp2
 go_loopw [14,15,16] (fun s t _ wr=>∃i j:Nat,s=iv i/\t=iv j/\(a<=i/\i<=j/\j<=m)/\Hid (∀k,a<=k->k<i->(f k).wall<=(f m).wall)/\Hid (∀k,j<=k->k<m->(f m).wall<(f k).wall)/\Hid (RowF wr base g cap n f)/\Hid (Below base w wr)) (fun s t _ _=>(intOf t).toNat-(intOf s).toNat)
 case atStart=>exact⟨a,m,rfl,rfl,by omega,fun k p q=>by omega,fun k p q=>by omega,HH,brf _ _⟩
 case round=>
  obtain⟨wa,dS⟩:=qea wr
  subst dS
  obtain⟨i,j,rfl,rfl,eF,HL,HG,HR,HB⟩:=hrel
  clear HH
  by_cases hlt:i<j
  ·have i1:(i:Int)<(j:Int):=by omega
   obtain⟨c,hc⟩:=qeb ((i+j) / 2)
   have ec:((i:Int)+(j:Int)) / 2=(c:Int):=by omega
   have aX:i<=c:=by omega
   have cU:c<j:=by omega
   have c1:(c:Int)<(n:Int):=by omega
   have c2:(0:Int)<=(c:Int):=by omega
   have a1:(m:Int)<(n:Int):=by omega
   have a2:(0:Int)<=(m:Int):=by omega
   clear hc
   obtain⟨c0,c1,c2,c3,c4,c5⟩:=jf0 HR.out (lf_at (show m<n by omega))
   obtain⟨d0,d1,d2,d3,d4,d5⟩:=jf0 HR.out (lf_at (show c<n by omega))
   have k0:=cell_regrown c0
   have k1:=cell_regrown c1
   have k2:=cell_regrown c2
   have k3:=cell_regrown c3
   have k4:=cell_regrown c4
   have k5:=cell_regrown c5
   have l0:=cell_regrown d0
   have l1:=cell_regrown d1
   have l2:=cell_regrown d2
   have l3:=cell_regrown d3
   have l4:=cell_regrown d4
   have l5:=cell_regrown d5
   have hA:=fun W=>hF.call (f m) (f c) W
   simp only[EventD.v]at hA
   clear c0 c1 c2 c3 c4 c5 d0 d1 d2 d3 d4 d5
   by_cases hw:(f m).wall<(f c).wall
   ·have jK:Hid (∀k,c<=k->k<m->(f m).wall<(f k).wall):=fun k p q=>by
     have:=I1.out.le (show a<=c by omega) p q
     omega
    rw[cmpW_lt hw]at hA
    have cE:∀dd os,Cl _ _ (grow (redrawn wa dd) os) fun e cW=>e=.returned (iv (-1))/\∃p:Regrown,cW=grow (redrawn wa p.d) p.os:=fun _ _=>Calls.regrown_of (hA _)
    go_wp2_with fail
    refine wp_region_quiet_below (by kernel_rfl) (by kernel_rfl) ?_
    repeat (quiet_step ((go_at_call 26;exact cE _ _)))
    refine wpQuiet_nil ?_
    intro wc gm
    obtain⟨⟨dq,aQ⟩,cJ⟩:=gm
    have ww:Bw wa wc:=cJ ▸ below_regrown wa dq aQ
    have lh:=hid0 (HR.out.below ww)
    have jI:=hid0 (bel_mono HB.out ww hb)
    clear k0 l0 k1 l1 k2 l2 k3 l3 k4 l4 k5 l5 hA cE ww cJ
    go_wp2
    go_roundw
    case rel=>exact⟨i,c,rfl,rfl,by omega,HL,jK,lh,jI⟩
    case measure=>simp[intOf];omega
   ·have js:Hid (∀k,a<=k->k<c+1->(f k).wall<=(f m).wall):=fun k p q=>by
     have:=I1.out.le p (show k<=c by omega) (by omega)
     omega
    have FQ:=cmpW_ge hw
    generalize cmpW (f m) (f c)=z at *
    have P3:decide (z<0)=false:=dfe FQ
    have cE:∀dd os,Cl _ _ (grow (redrawn wa dd) os) fun e cW=>e=.returned (iv z)/\∃p:Regrown,cW=grow (redrawn wa p.d) p.os:=fun _ _=>Calls.regrown_of (hA _)
    go_wp2_with fail
    refine wp_region_quiet_below (by kernel_rfl) (by kernel_rfl) ?_
    repeat (quiet_step ((go_at_call 26;exact cE _ _)))
    refine wpQuiet_nil ?_
    intro wc gm
    obtain⟨⟨dq,aQ⟩,cJ⟩:=gm
    have ww:Bw wa wc:=cJ ▸ below_regrown wa dq aQ
    have lh:=hid0 (HR.out.below ww)
    have jI:=hid0 (bel_mono HB.out ww hb)
    clear k0 l0 k1 l1 k2 l2 k3 l3 k4 l4 k5 l5 hA cE ww cJ
    go_wp2
    go_roundw
    case rel=>exact⟨c+1,j,by go_num,rfl,by omega,js,HG,lh,jI⟩
    case measure=>simp[intOf];omega
  ·have Px:¬(i:Int)<(j:Int):=by omega
   have HE:Hid (Same a b f (ins f i m)/\Srt (ins f i m) a b):=by
    rw[HM.out]
    refine⟨ins_same (by omega) (by omega),ins_srt I1.out (by omega) (by omega) (fun k q1 q2=>HG.out k (by omega) q2) ?_ (fun k q1 q2=>HI.out k m q1 q2 (nlr _) (by omega))⟩
    by_cases e:i=a
    ·exact .inl e
    ·exact .inr (HL.out (i-1) (by omega) (by omega))
   go_wp2
   go_loopw [17] (fun s wr=>∃k:Nat,s=iv k/\(i<=k/\k<=m)/\Hid (RowF wr base g cap n (ins f k m))/\Hid (Below base w wr)) (fun s _=>(intOf s).toNat)
   case atStart=>exact⟨m,rfl,by omega,by rw[ins_none];exact HR,HB⟩
   case round=>
    clear HR HB
    obtain⟨wa,dS⟩:=qea wr
    subst dS
    obtain⟨k,rfl,hk,HR,HB⟩:=hrel
    by_cases So:i<k
    ·have k1:(i:Int)<(k:Int):=by omega
     obtain⟨v,hv⟩:∃v,k=v+1:=⟨k-1,by omega⟩
     have ev:(k:Int)-1=(v:Int):=by omega
     have v1:(v:Int)<(n:Int):=by omega
     have v2:(0:Int)<=(v:Int):=by omega
     have k2:(k:Int)<(n:Int):=by omega
     have k3:(0:Int)<=(k:Int):=by omega
     have ej:k<=v+1:=by omega
     have eQ:v<k:=by omega
     have HV:=hid0 hv
     clear hv
     have hR:=HR.out
     have jM:Hid (RowF ((wa.setCells g (k*6) (ins f k m v).cs).setCells g (v*6) (ins f k m k).cs) base g cap n (ins f v m)):=by
      have h:=hR.swap (show k<n by omega) (show v<n by omega)
      rw[HV.out,ins_step (by omega)]at h
      rw[HV.out]
      exact h
     have Hg:=hid0 (row_sets (o:=v*6) (row_sets (o:=k*6) HB.out hg (ins f k m v)) hg (ins f k m k))
     obtain⟨c0,c1,c2,c3,c4,c5⟩:=jf0 hR (lf_at (show k<n by omega))
     obtain⟨d0,d1,d2,d3,d4,d5⟩:=jf0 hR (lf_at (show v<n by omega))
     obtain⟨f0,f1,f2,f3,f4,f5⟩:=hR.free k
     obtain⟨g0,g1,g2,g3,g4,g5⟩:=hR.free v
     have hP:=hR.put (show k<n by omega) (ins f k m v)
     obtain⟨p0,p1,p2,p3,p4,p5⟩:=jf0 hP (lf_at (show v<n by omega))
     obtain⟨z0,z1,z2,z3,z4,z5⟩:=hP.free v
     generalize ins f k m v=y at *
     generalize ins f k m k=x at *
     simp only[World.setCells,EventD.cs,Nat.add_assoc,Nat.reduceAdd]at p0 p1 p2 p3 p4 p5 z0 z1 z2 z3 z4 z5
     clear hR hP HR
     go_wp2_with fail
     go_region
     go_wp2
     go_roundw
     case rel=>exact⟨v,by go_num,by omega,jM.out.below (jab _),bel_drew Hg.out⟩
     case measure=>simp[intOf];omega
    ·have k1:¬(i:Int)<(k:Int):=by omega
     obtain rfl:k=i:=by omega
     go_wp2
     exact bpr (results_none Tryz.results103 _ _ _) rfl ⟨rfl,⟨_,HR.out,HE.out.1,HE.out.2⟩,HB.out⟩
