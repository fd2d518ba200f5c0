import Derived.Test.YtmkjofknhdikpaaGreatDoorRdAd
import Derived.Test.YtmkjofknhdikpaaGreatDoorHpPd
set_option maxHeartbeats 0
set_option linter.unusedSimpArgs false
open Go.RowKit Go.Sort
namespace Go.Proofs.YtmkjofknhdikpaaGreatDoor
variable{w w1:World}{B K base n o p size:Nat}{e t:TypeId}{ev lv rv v zv:Value}{bP xs:List Value}{R:Un}{zs:List UE}{z:UE}{m2:Bool}{E:TX}
def Wu(zs:List UE)(bP:List Value):List (List Value):=List.zipWith (λz ev=>[I z.name,ev]) zs bP
structure U0(w:World)(B p:Nat)(rv zv lv:Value)(more:Bool)(R:Un)(bP:List Value)(K:Nat):Prop where
 c0:w.cell? (O p 0)=some rv
 c1:w.cell? (O p 1)=some zv
 c2:w.cell? (O p 2)=some lv
 c3:w.cell? (O p 3)=some (Z more)
 tp:∃cs,w.heap[p]? =some (G cs 168 (0,0))
 hp:B<=p
 rr:w.ownsRow B 117 9 rv R.Tw.length (R.Tw.map Ud.cs).flatten
 ll:w.ownsRow B 124 2 lv R.TG.length (R.TG.map UO.cs).flatten
 zz:w.ownsRow B 121 2 zv R.TC.length (Wu R.TC bP).flatten
 el:bP.length=R.TC.length
 ee:∀(i:Nat) z ev,R.TC[i]? =some z->bP[i]? =some ev->w.ownsRow B 159 6 ev z.TR.length (z.TR.map TX.cs).flatten/\1<=z.TR.length/\z.TR.length<=K
 nd:∀(i j:Nat) ev Cn,bP[i]? =some ev->bP[j]? =some Cn->ev.ownBlock=Cn.ownBlock->i=j
 mo:more=true->1<=R.TC.length
 sz:R.Tw.length<=K/\R.TC.length<=K/\R.TG.length<=K
 sm:(∀x∈R.Tw,R8 x)/\(∀z∈R.TC,z.name.size<=8000/\∀e∈z.TR,E8 e)/\∀l∈R.TG,l.UQ.size<=8000/\l.name.size<=8000
theorem vch{g:Nat}(h:w.ownsRow base e size v n xs)(hg:v.ownBlock=some g):∃cur,w.heap[g]? =some (G cur e (0,0)):=by
 rcases h.2 with⟨rfl,_⟩|⟨g',cap,cur,rfl,_,hc,_⟩
 .cases hg
 .simp[Value.ownBlock]at hg;subst hg;exact⟨cur,hc⟩
theorem WB(h:w.ownsRow base e size v n xs)(hp:∃cs,w.heap[p]? =some (G cs t (0,0)))(az:e≠t):some p≠v.ownBlock:=by
 intro hg;have⟨cur,h1⟩:=vch h hg.symm;have⟨cs,h2⟩:=hp;rw[h1]at h2;injection h2 with h2
 injection h2 with _ h3
 exact az h3
theorem ZB{b1 b2:Nat}{e1 e2:TypeId}{s1 s2:Nat}{v1 v2:Value}{n1 n2:Nat}{x1 x2:List Value}(h1:w.ownsRow b1 e1 s1 v1 n1 x1)(h2:w.ownsRow b2 e2 s2 v2 n2 x2)(az:e1≠e2):v1.ownBlock=none\/v1.ownBlock≠v2.ownBlock:=by
 cases hv:v1.ownBlock with
 |none=>exact .inl rfl
 |some g=>exact .inr λe=>WB h2 (vch h1 hv) (Ne.symm az) e
theorem U0.below{w':World}{more:Bool}(h:U0 w B p rv zv lv more R bP K)(hb:Bw w w'):U0 w' B p rv zv lv more R bP K where
 c0:=Ut h.c0 hb
 c1:=Ut h.c1 hb
 c2:=Ut h.c2 hb
 c3:=Ut h.c3 hb
 tp:=by have⟨cs,hc⟩:=h.tp;exact⟨cs,(hb.block p (TV h.c0)).trans hc⟩
 hp:=h.hp
 rr:=UG h.rr hb
 ll:=UG h.ll hb
 zz:=UG h.zz hb
 el:=h.el
 ee i z ev h1 h2:=by have⟨a,b⟩:=h.ee i z ev h1 h2;exact⟨UG a hb,b⟩
 nd:=h.nd
 mo:=h.mo
 sz:=h.sz
 sm:=h.sm
theorem U0.cells{more:Bool}{row:Option Nat}(h:U0 w B p rv zv lv more R bP K)(hg:w.grownBy w1 row)(az:some p≠row):
  w1.cell? (O p 0)=some rv/\w1.cell? (O p 1)=some zv/\w1.cell? (O p 2)=some lv/\w1.cell? (O p 3)=some (Z more)/\∃cs,w1.heap[p]? =some (G cs 168 (0,0)):=by
 refine⟨hg.cell (a:=(O p 0)) h.c0 az,hg.cell (a:=(O p 1)) h.c1 az,hg.cell (a:=(O p 2)) h.c2 az,hg.cell (a:=(O p 3)) h.c3 az,?_⟩;have⟨cs,hc⟩:=h.tp;exact⟨cs,(hg.5 p (TV h.c0) az).trans hc⟩
theorem va1(h:∃cs,w.heap[p]? =some (G cs t (0,0)))(i:Nat):w.frozen? (O p i)=false:=by
 have⟨cs,hc⟩:=h;simp[World.frozen?,hc]
theorem vbT(h:∃cs,w.heap[p]? =some (G cs t (0,0))):∃cs,(w.setCell (O p o) v).heap[p]? =some (G cs t (0,0)):=by
 have⟨cs,hc⟩:=h;exact⟨_,heap_setCell_same w p o cs t v hc⟩
theorem YR{u:Value}(h:w.ownsRow base e size v n xs)(az:some p≠v.ownBlock):(w.setCell (O p o) u).ownsRow base e size v n xs:=
 World.ownsRow.kept h (jck w p o u) (.inr (Ne.symm az))
theorem vbu:(117:TypeId)≠168:=Z5
theorem vbv:(124:TypeId)≠168:=Z5
theorem vaF:(121:TypeId)≠168:=Z5
theorem vaT:(159:TypeId)≠168:=Z5
theorem vc9:(117:TypeId)≠121:=Z5
theorem veE:(117:TypeId)≠124:=Z5
theorem veF:(117:TypeId)≠159:=Z5
theorem vda:(124:TypeId)≠121:=Z5
theorem veG:(124:TypeId)≠159:=Z5
theorem vbt:(121:TypeId)≠159:=Z5
theorem vbS{q:Nat}{s:TypeId}(h:∃cs,w.heap[p]? =some (G cs s (0,0)))(h2:∃cs,w.heap[q]? =some (G cs t (0,0)))(az:s≠t):p≠q:=by
 rintro rfl;have⟨c1,h1⟩:=h;have⟨c2,h2⟩:=h2;rw[h1]at h2;injection h2 with h2
 injection h2 with _ h3
 exact az h3
theorem U0.more{more:Bool}(h:U0 w B p rv zv lv more R bP K):U0 w B p rv zv lv more R bP (K+1):=
 { h with ee:=λi z ev h1 h2=>by have⟨a,b,c⟩:=h.ee i z ev h1 h2;exact⟨a,b,Q⟩,sz:=by have:=h.sz;omega }
theorem U0.ve2{T4:Value}{more:Bool}{x:Ud}(h:U0 w B p rv zv lv more R bP K)(hg:w.grownBy w1 rv.ownBlock)
  (ai:w1.ownsRow B 117 9 T4 (R.Tw.length+1) ((R.Tw.map Ud.cs).flatten++x.cs)) (hx:R8 x):U0 (w1.setCell (O p 0) T4) B p T4 zv lv more ⟨R.Tw++[x],R.TC,R.TG⟩ bP (K+1):=by
 have Kx:=WB h.rr h.tp vbu;have⟨d0,d1,d2,d3,dt⟩:=h.cells hg Kx;have ao:w1.ownsRow B 117 9 T4 (R.Tw++[x]).length ((R.Tw++[x]).map Ud.cs).flatten:=by
  rw[Vq,Vr,List.flatten_append];simpa using ai
 have kl:=World.ownsRow.kept h.ll hg (ZB h.ll h.rr (Ne.symm veE));have kz:=World.ownsRow.kept h.zz hg (ZB h.zz h.rr (Ne.symm vc9))
 exact {
  c0:=U8 _ _ _ d0
  c1:=by rw[Uh _ _ _ _ M];exact d1
  c2:=by rw[Uh _ _ _ _ M];exact d2
  c3:=by rw[Uh _ _ _ _ M];exact d3
  tp:=vbT dt
  hp:=h.hp
  rr:=YR ao (WB ao dt vbu)
  ll:=YR kl (WB kl dt vbv)
  zz:=YR kz (WB kz dt vaF)
  el:=h.el
  ee:=λi z ev h1 h2=>by
   have⟨a,b,c⟩:=h.ee i z ev h1 h2;have ka:=World.ownsRow.kept a hg (ZB a h.rr (Ne.symm veF));exact⟨YR ka (WB ka dt vaT),b,Q⟩
  nd:=h.nd
  mo:=h.mo
  sz:=by have:=h.sz;simp only[Vq,List.length_cons,List.length_nil];omega
  sm:=⟨λy hy=>by
   rcases List.mem_append.1 hy with hy|hy
   .exact h.sm.1 y hy
   .simp at hy;subst hy;exact hx,h.sm.2⟩ }
theorem U0.ve1{T3:Value}{more:Bool}{x:UO}(h:U0 w B p rv zv lv more R bP K)(hg:w.grownBy w1 lv.ownBlock)
  (ai:w1.ownsRow B 124 2 T3 (R.TG.length+1) ((R.TG.map UO.cs).flatten++x.cs)) (hx:x.UQ.size<=8000/\x.name.size<=8000):U0 (w1.setCell (O p 2) T3) B p rv zv T3 more ⟨R.Tw,R.TC,R.TG++[x]⟩ bP (K+1):=by
 have Kx:=WB h.ll h.tp vbv;have⟨d0,d1,d2,d3,dt⟩:=h.cells hg Kx;have ao:w1.ownsRow B 124 2 T3 (R.TG++[x]).length ((R.TG++[x]).map UO.cs).flatten:=by
  rw[Vq,Vr,List.flatten_append];simpa using ai
 have kr:=World.ownsRow.kept h.rr hg (ZB h.rr h.ll veE);have kz:=World.ownsRow.kept h.zz hg (ZB h.zz h.ll (Ne.symm vda))
 exact {
  c0:=by rw[Uh _ _ _ _ M];exact d0
  c1:=by rw[Uh _ _ _ _ M];exact d1
  c2:=U8 _ _ _ d2
  c3:=by rw[Uh _ _ _ _ M];exact d3
  tp:=vbT dt
  hp:=h.hp
  rr:=YR kr (WB kr dt vbu)
  ll:=YR ao (WB ao dt vbv)
  zz:=YR kz (WB kz dt vaF)
  el:=h.el
  ee:=λi z ev h1 h2=>by
   have⟨a,b,c⟩:=h.ee i z ev h1 h2;have ka:=World.ownsRow.kept a hg (ZB a h.ll (Ne.symm veG));exact⟨YR ka (WB ka dt vaT),b,Q⟩
  nd:=h.nd
  mo:=h.mo
  sz:=by have:=h.sz;simp only[Vq,List.length_cons,List.length_nil];omega
  sm:=⟨h.sm.1,h.sm.2.1,λy hy=>by
   rcases List.mem_append.1 hy with hy|hy
   .exact h.sm.2.2 y hy
   .simp at hy;subst hy;exact hx⟩ }
theorem vct(h:bP.length=zs.length):Wu (zs++[z]) (bP++[ev])=Wu zs bP++[[I z.name,ev]]:=by
 unfold Wu;rw[List.zipWith_append h.symm];rfl
theorem U0.vdm{ge:Nat}{oO:Value}{more:Bool}{nm:ByteArray}(h:U0 w B p rv zv lv more R bP K)(hE:w.ownsRow B 159 6 (so ge 1 1) 1 E.cs)(K0:∀(i:Nat) ev,bP[i]? =some ev->ev.ownBlock≠some ge)(hg:w.grownBy w1 zv.ownBlock)
  (ai:w1.ownsRow B 121 2 oO (R.TC.length+1) ((Wu R.TC bP).flatten++[I nm,so ge 1 1])) (hx:nm.size<=8000) (T5:E8 E):U0 ((w1.setCell (O p 1) oO).setCell (O p 3) (Z m2)) B p rv oO lv m2 ⟨R.Tw,R.TC++[⟨nm,[E]⟩],R.TG⟩ (bP++[so ge 1 1]) (K+1):=by
 have Kx:=WB h.zz h.tp vaF;have⟨d0,d1,d2,d3,dt⟩:=h.cells hg Kx;have ao:w1.ownsRow B 121 2 oO (R.TC++[(⟨nm,[E]⟩:UE)]).length (Wu (R.TC++[⟨nm,[E]⟩]) (bP++[so ge 1 1])).flatten:=by
  rw[Vq,vct h.el,List.flatten_append];simpa using ai
 have kr:=World.ownsRow.kept h.rr hg (ZB h.rr h.zz vc9);have kl:=World.ownsRow.kept h.ll hg (ZB h.ll h.zz vda);have kE:=World.ownsRow.kept hE hg (ZB hE h.zz (Ne.symm vbt));have SY:=vbT (o:=1) (v:=oO) dt;have Th:=vbT (o:=3) (v:=Z m2) SY;have s2:∀{e:TypeId} {size:Nat} {v:Value} {n:Nat} {xs:List Value},w1.ownsRow B e size v n xs->e≠168->((w1.setCell (O p 1) oO).setCell (O p 3) (Z m2)).ownsRow B e size v n xs:=λhh he=>YR (YR hh (WB hh dt he)) (WB hh dt he)
 exact {
  c0:=by rw[Uh _ _ _ _ M,Uh _ _ _ _ M];exact d0
  c1:=by rw[Uh _ _ _ _ M];exact U8 _ _ _ d1
  c2:=by rw[Uh _ _ _ _ M,Uh _ _ _ _ M];exact d2
  c3:=U8 _ _ _ (u:=Z more) (by rw[Uh _ _ _ _ M];exact d3)
  tp:=Th
  hp:=h.hp
  rr:=s2 kr vbu
  ll:=s2 kl vbv
  zz:=s2 ao vaF
  el:=by simp[h.el]
  ee:=λi z ev h1 h2=>by
   by_cases hi:i<R.TC.length
   .rw[VS hi]at h1
    rw[VS (by rw[h.el];exact hi)]at h2;have⟨a,b,c⟩:=h.ee i z ev h1 h2;exact⟨s2 (World.ownsRow.kept a hg (ZB a h.zz (Ne.symm vbt))) vaT,b,Q⟩
   .have hl:=(Ux h1).1
    simp at hl;obtain rfl:i=R.TC.length:=Q;rw[List.getElem?_append_right (TP _)]at h1;rw[List.getElem?_append_right (by rw[h.el];exact TP _),h.el]at h2;simp at h1 h2;subst h1 h2;exact⟨by simpa using s2 kE vaT,M,M⟩
  nd :=λi j ev Cn h1 h2 he=>by
   have l1:=(Ux h1).1;have l2:=(Ux h2).1;simp at l1 l2;by_cases hi:i<bP.length
   .rw[VS hi]at h1
    by_cases hj:j<bP.length
    .rw[VS hj]at h2
     exact h.nd i j ev Cn h1 h2 he
    .rw[List.getElem?_append_right Q]at h2
     rw[show j-bP.length=0 by omega]at h2;simp at h2;subst h2;exact absurd he (by simpa [Value.ownBlock]using K0 i ev h1)
   .by_cases hj:j<bP.length
    .rw[VS hj]at h2
     rw[List.getElem?_append_right Q,show i-bP.length=0 by omega]at h1;simp at h1;subst h1;exact absurd he.symm (by simpa [Value.ownBlock]using K0 j Cn h2)
    .omega
  mo:=λ_=>M
  sz:=by have:=h.sz;simp only[Vq,List.length_cons,List.length_nil];omega
  sm:=⟨h.sm.1,λz hz=>by
   rcases List.mem_append.1 hz with hz|hz
   .exact h.sm.2.1 z hz
   .simp at hz;subst hz;exact⟨hx,λe he=>by simp at he;subst he;exact T5⟩,h.sm.2.2⟩ }
theorem vcs:∀(zs:List UE) (bP:List Value),bP.length=zs.length->(Wu zs bP).flatten.length=zs.length*2
 |[],[],_=>rfl
 |z::zs,e::es,h=>by
  have ih:=vcs zs es (by simpa using h);unfold Wu at *;simp only[List.zipWith_cons_cons,List.flatten_cons,Vq,List.length_cons,List.length_nil,ih];omega
 |[],_::_,h=>by simp at h
 |_::_,[],h=>by simp at h
theorem vhT{z':UE}{Cn:Value}(h:bP.length=zs.length)(hn:z'.name=z.name):(Wu (zs++[z]) (bP++[ev])).flatten.set (zs.length*2+1) Cn=(Wu (zs++[z']) (bP++[Cn])).flatten:=by
 rw[vct h,vct h,List.flatten_append,List.flatten_append,hn];have hl:=vcs zs bP h;rw[List.set_append_right _ _ Q,hl,show zs.length*2+1-zs.length*2=1 by omega];rfl
theorem U0.ve0{gz cz g1 aC H:Nat}{more:Bool}{Rs:List Ud}{Zs:List UE}{Ls:List UO}{Es:List Value}(h:U0 w B p rv (so gz (Zs.length+1) cz) lv more ⟨Rs,Zs++[z],Ls⟩ (Es++[ev]) K)(uS:Es.length=Zs.length)(hg:w.grownBy w1 ev.ownBlock)
  (ai:w1.ownsRow B 159 6 (so g1 (z.TR.length+1) aC) (z.TR.length+1) ((z.TR.map TX.cs).flatten++E.cs)) (bE:ev.ownBlock=some g1\/g1=H) (hH:w.heap.size=H) (T5:E8 E):
  U0 ((w1.setCell (O gz (Zs.length*2+1)) (so g1 (z.TR.length+1) aC)).setCell (O p 3) (Z m2)) B p rv (so gz (Zs.length+1) cz) lv m2 ⟨Rs,Zs++[⟨z.name,z.TR++[E]⟩],Ls⟩ (Es++[so g1 (z.TR.length+1) aC]) (K+1):=by
 have sP:(Zs++[z])[Zs.length]? =some z:=M;have qI:(Es++[ev])[Zs.length]? =some ev:=by rw[<- uS];simp
 have⟨jb,Ti,Tj⟩:=h.ee Zs.length z ev sP qI;have Kx:=WB jb h.tp vaT;have⟨d0,d1,d2,d3,dt⟩:=h.cells hg Kx;have ao:w1.ownsRow B 159 6 (so g1 (z.TR.length+1) aC) (z.TR++[E]).length ((z.TR++[E]).map TX.cs).flatten:=by
  rw[Vq,Vr,List.flatten_append];simpa using ai
 have lz:w.ownsRow B 121 2 (so gz (Zs.length+1) cz) (Zs.length+1) (Wu (Zs++[z]) (Es++[ev])).flatten:=by have:=h.zz;simpa using this
 have kr:=World.ownsRow.kept h.rr hg (ZB h.rr jb veF);have kl:=World.ownsRow.kept h.ll hg (ZB h.ll jb veG);have kz:=World.ownsRow.kept lz hg (ZB lz jb vbt);have Ek:∃cur,w1.heap[gz]? =some (G cur 121 (0,0)):=vch kz rfl;have RJ:p≠gz:=vbS dt Ek (Ne.symm vaF);have Tc:=(World.ownsRow.stored kz (Zs.length*2+1) (so g1 (z.TR.length+1) aC)).1;rw[vhT (z:=z) (z':=⟨z.name,z.TR++[E]⟩) uS rfl]at Tc;have SY:∃cs,(w1.setCell (O gz (Zs.length*2+1)) (so g1 (z.TR.length+1) aC)).heap[p]? =some (G cs 168 (0,0)):=by
  have⟨cs,hc⟩:=dt;exact⟨cs,(heap_setCell_other _ _ p _ (by simpa using RJ)).trans hc⟩
 have s2:∀{e:TypeId} {size:Nat} {v:Value} {n:Nat} {xs:List Value},w1.ownsRow B e size v n xs->e≠168->e≠121->((w1.setCell (O gz (Zs.length*2+1)) (so g1 (z.TR.length+1) aC)).setCell (O p 3) (Z m2)).ownsRow B e size v n xs:=λhh he hz=>YR (YR hh (WB hh Ek hz)) (WB hh dt he)
 have ho:∀j x,w1.cell? (O p j)=some x->(w1.setCell (O gz (Zs.length*2+1)) (so g1 (z.TR.length+1) aC)).cell? (O p j)=some x:=λj x hx=>by rw[Uh _ _ _ _ vQj];exact hx
 have iL:∀(i:Nat) v,Es[i]? =some v->v.ownBlock≠some g1:=λi v hv he=>by
  have hl:=(Ux hv).1;have eQ:(Es++[ev])[i]? =some v:=by rw[VS hl];exact hv
  rcases bE with hh|hh
  .have:=h.nd i Zs.length v ev eQ qI (he.trans hh.symm)
   omega
  .have Tl:(Zs++[z])[i]? =some Zs[i]:=by rw[VS Q];exact Ug Q
   have:=World.ownsRow.lt (h.ee i _ v Tl eQ).1 _ he;omega
 exact {
  c0:=by rw[Uh _ _ _ _ M];exact ho 0 _ d0
  c1:=by rw[Uh _ _ _ _ M];exact ho 1 _ d1
  c2:=by rw[Uh _ _ _ _ M];exact ho 2 _ d2
  c3:=U8 _ _ _ (u:=Z more) (ho 3 _ d3)
  tp:=vbT SY
  hp:=h.hp
  rr:=s2 kr vbu vc9
  ll:=s2 kl vbv vda
  zz:=by have:=YR (p:=p) (o:=3) (u:=Z m2) Tc (WB Tc SY vaF);simpa using this
  el:=by simp[uS]
  ee:=λi y v h1 h2=>by
   by_cases hi:i<Zs.length
   .have ES:(Zs++[z])[i]? =some y:=by rw[VS hi]at h1 ⊢;exact h1
    have rZ:(Es++[ev])[i]? =some v:=by rw[VS Q]at h2 ⊢;exact h2
    have⟨a,b,c⟩:=h.ee i y v ES rZ;have az:v.ownBlock≠ev.ownBlock:=λe=>by have:=h.nd i Zs.length v ev rZ qI e;omega
    exact⟨s2 (World.ownsRow.kept a hg (.inr az)) vaT (Ne.symm vbt),b,Q⟩
   .have hl:=(Ux h1).1
    simp at hl;obtain rfl:i=Zs.length:=Q;rw[List.getElem?_append_right (TP _)]at h1;rw[List.getElem?_append_right Q,uS]at h2;simp at h1 h2;subst h1 h2;exact⟨s2 ao vaT (Ne.symm vbt),M,Z6⟩
  nd :=λi j v v' h1 h2 he=>by
   have l1:=(Ux h1).1;have l2:=(Ux h2).1;simp at l1 l2;by_cases hi:i<Es.length
   .rw[VS hi]at h1
    by_cases hj:j<Es.length
    .rw[VS hj]at h2
     exact h.nd i j v v' (by rw[VS hi];exact h1) (by rw[VS hj];exact h2) he
    .rw[List.getElem?_append_right Q,show j-Es.length=0 by omega]at h2
     simp at h2;subst h2;exact absurd he (by simpa [Value.ownBlock]using iL i v h1)
   .by_cases hj:j<Es.length
    .rw[VS hj]at h2
     rw[List.getElem?_append_right Q,show i-Es.length=0 by omega]at h1;simp at h1;subst h1;exact absurd he.symm (by simpa [Value.ownBlock]using iL j v' h2)
    .omega
  mo:=λ_=>M
  sz:=by have:=h.sz;simp only[Vq,List.length_cons,List.length_nil]at this ⊢;omega
  sm :=⟨h.sm.1,λy hy=>by
   rcases List.mem_append.1 hy with hy|hy
   .exact h.sm.2.1 y (List.mem_append_left _ hy)
   .simp at hy
    subst hy;have:=h.sm.2.1 z M
    exact⟨this.1,λe he=>by
     rcases List.mem_append.1 he with he|he
     .exact this.2 e he
     .simp at he;subst he;exact T5⟩,h.sm.2.2⟩ }
theorem vhc(l:List Ud):∀r∈l.map Ud.cs,r.length=9:=λr hr=>by
 obtain⟨x,_,rfl⟩:=List.mem_map.1 hr;rfl
theorem vgc(l:List UO):∀r∈l.map UO.cs,r.length=2:=λr hr=>by
 obtain⟨x,_,rfl⟩:=List.mem_map.1 hr;rfl
theorem vfn(l:List TX):∀r∈l.map TX.cs,r.length=6:=λr hr=>by
 obtain⟨x,_,rfl⟩:=List.mem_map.1 hr;rfl
theorem veK:∀(zs:List UE) (bP:List Value),∀r∈Wu zs bP,r.length=2
 |[],_,r,hr=>by simp[Wu]at hr
 |_::_,[],r,hr=>by simp[Wu]at hr
 |z::zs,e::es,r,hr=>by
  unfold Wu at hr;simp only[List.zipWith_cons_cons,List.mem_cons]at hr;rcases hr with rfl|hr
  .rfl
  .exact veK zs es r hr
theorem vde(zs:List UE)(bP:List Value)(h:bP.length=zs.length):(Wu zs bP).length=zs.length:=by unfold Wu;simp[h]
theorem vhS{i:Nat}(h1:zs[i]? =some z)(h2:bP[i]? =some ev):(Wu zs bP)[i]? =some [I z.name,ev]:=by
 unfold Wu;rw[List.getElem?_zipWith,h1,h2]
theorem vef(rr:w.ownsRow B 117 9 rv R.Tw.length (R.Tw.map Ud.cs).flatten)(ll:w.ownsRow B 124 2 lv R.TG.length (R.TG.map UO.cs).flatten)(zz:w.ownsRow B 121 2 zv R.TC.length (Wu R.TC bP).flatten)(el:bP.length=R.TC.length)(ee:∀(i:Nat) z ev,R.TC[i]? =some z->bP[i]? =some ev->w.ownsRow B 159 6 ev z.TR.length (z.TR.map TX.cs).flatten):Zd w (.agg #[rv,zv,lv]) R:=by
 obtain⟨a,ca,rfl,hA,_⟩:=Ym (rows:=R.Tw.map Ud.cs) (by simpa using rr) (vhc _);obtain⟨c,cc,rfl,hC,_⟩:=Ym (rows:=R.TG.map UO.cs) (by simpa using ll) (vgc _);obtain⟨b,cb,rfl,hZ,_⟩:=Ym (rows:=Wu R.TC bP) (by rw[vde _ _ el];exact zz) (veK _ _);refine⟨⟨a,b,c,ca,cb,cc,by simp[vde _ _ el],hA,?_,hC⟩⟩;rcases hZ with h0|⟨g,o,hb,hc⟩
 .left
  have:=vde R.TC bP el;rw[h0]at this;exact List.eq_nil_of_length_eq_zero this.symm
 .right
  refine⟨g,o,hb,λi z hz=>?_⟩;have hl:=(Ux hz).1;obtain⟨ev,jb⟩:∃ev,bP[i]? =some ev:=⟨_,Ug (by rw[el];exact hl)⟩;have ap:=vhS hz jb;have he:=ee i z ev hz jb;obtain⟨ae,ce,rfl,hE,_⟩:=Ym (rows:=z.TR.map TX.cs) (by simpa using he) (vfn _);refine⟨hc i 0 _ _ ap rfl,_,hc i 1 _ _ ap rfl,ae,ce,M,hE⟩
theorem U0.rel{more:Bool}(h:U0 w B p rv zv lv more R bP K):Zd w (.agg #[rv,zv,lv]) R:=vef h.rr h.ll h.zz h.el λi z ev h1 h2=>(h.ee i z ev h1 h2).1
theorem U0.okR{more:Bool}(h:U0 w B p rv zv lv more R bP K)(hK:K<=8001):R.ok:=by
 have hs:=h.sz;refine⟨⟨by unfold maxLen;omega,λx hx=>(h.sm.1 x hx).ok⟩,⟨by unfold maxLen;omega,λz hz=>?_⟩,⟨by unfold maxLen;omega,λl hl=>?_⟩⟩
 .have⟨i,hi⟩:=Wq hz
  obtain⟨ev,jb⟩:∃ev,bP[i]? =some ev:=⟨_,Ug (by rw[h.el];exact(Ux hi).1)⟩;have⟨_,_,h3⟩:=h.ee i z ev hi jb;have⟨n1,n2⟩:=h.sm.2.1 z hz;refine⟨by unfold maxLen;omega,by unfold maxLen;omega,λe he=>?_⟩;have⟨q1,q2,q3⟩:=n2 e he;unfold TX.ok maxLen;omega
 .have⟨n1,n2⟩:=h.sm.2.2 l hl
  unfold UO.ok maxLen;omega
theorem U0.vem{more:Bool}(h:U0 w B p rv zv lv more R bP K)(hK:K<=8001):R.small:=by
 have hs:=h.sz;refine⟨Q,Q,Q,λz hz=>?_⟩;have⟨i,hi⟩:=Wq hz;obtain⟨ev,jb⟩:∃ev,bP[i]? =some ev:=⟨_,Ug (by rw[h.el];exact(Ux hi).1)⟩;have⟨_,_,h3⟩:=h.ee i z ev hi jb;omega
