import Derived.Test.YtbbgeelamjmgaaaGreatDoorRdAd
import Derived.Test.YtbbgeelamjmgaaaGreatDoorHpPd
set_option maxHeartbeats 0
set_option linter.unusedSimpArgs false
open Go.RowKit Go.Sort
namespace Go.Proofs.YtbbgeelamjmgaaaGreatDoor
variable{w w1:World}{B K base n o p size:Nat}{e t:TypeId}{ev lv rv v zv:Value}{bP xs:List Value}{R:ZW}{zs:List pE}{z:pE}{m2:Bool}{E:ZH}
def vae(zs:List pE)(bP:List Value):List (List Value):=List.zipWith (λz ev=>[I z.name,ev]) zs bP
structure zX(w:World)(B p:Nat)(rv zv lv:Value)(more:Bool)(R:ZW)(bP:List Value)(K:Nat):Prop where
 c0:w.cell? (O p 0)=some rv
 c1:w.cell? (O p 1)=some zv
 c2:w.cell? (O p 2)=some lv
 c3:w.cell? (O p 3)=some (.bool more)
 tp:∃cs,w.heap[p]? =some (G cs 168 (0,0))
 hp:B<=p
 rr:w.ownsRow B 116 9 rv R.Vv.length (R.Vv.map ZQ.cs).flatten
 ll:w.ownsRow B 122 2 lv R.YW.length (R.YW.map vH.cs).flatten
 zz:w.ownsRow B 120 2 zv R.YU.length (vae R.YU bP).flatten
 el:bP.length=R.YU.length
 ee:∀(i:Nat) z ev,R.YU[i]? =some z->bP[i]? =some ev->w.ownsRow B 154 6 ev z.ZC.length (z.ZC.map ZH.cs).flatten/\1<=z.ZC.length/\z.ZC.length<=K
 nd:∀(i j:Nat) ev Cn,bP[i]? =some ev->bP[j]? =some Cn->ev.ownBlock=Cn.ownBlock->i=j
 mo:more=true->1<=R.YU.length
 sz:R.Vv.length<=K/\R.YU.length<=K/\R.YW.length<=K
 sm:(∀x∈R.Vv,R8 x)/\(∀z∈R.YU,z.name.size<=8000/\∀e∈z.ZC,E8 e)/\∀l∈R.YW,l.vR.size<=8000/\l.name.size<=8000
theorem vdD{g:Nat}(h:w.ownsRow base e size v n xs)(hg:v.ownBlock=some g):∃cur,w.heap[g]? =some (G cur e (0,0)):=by
 rcases h.2 with⟨rfl,_⟩|⟨g',cap,cur,rfl,_,hc,_⟩
 .cases hg
 .simp[Value.ownBlock]at hg;subst hg;exact⟨cur,hc⟩
theorem vah(h:w.ownsRow base e size v n xs)(hp:∃cs,w.heap[p]? =some (G cs t (0,0)))(az:e≠t):some p≠v.ownBlock:=by
 intro hg;have⟨cur,h1⟩:=vdD h hg.symm;have⟨cs,h2⟩:=hp;rw[h1]at h2;injection h2 with h2
 injection h2 with _ h3
 exact az h3
theorem vbt{b1 b2:Nat}{e1 e2:TypeId}{s1 s2:Nat}{v1 v2:Value}{n1 n2:Nat}{x1 x2:List Value}(h1:w.ownsRow b1 e1 s1 v1 n1 x1)(h2:w.ownsRow b2 e2 s2 v2 n2 x2)(az:e1≠e2):v1.ownBlock=none\/v1.ownBlock≠v2.ownBlock:=by
 cases hv:v1.ownBlock with
 |none=>exact .inl rfl
 |some g=>exact .inr λe=>vah h2 (vdD h1 hv) (Ne.symm az) e
theorem zX.below{w':World}{more:Bool}(h:zX w B p rv zv lv more R bP K)(hb:Bw w w'):zX w' B p rv zv lv more R bP K where
 c0:=Z6 h.c0 hb
 c1:=Z6 h.c1 hb
 c2:=Z6 h.c2 hb
 c3:=Z6 h.c3 hb
 tp:=by have⟨cs,hc⟩:=h.tp;exact⟨cs,(hb.block p (ZI h.c0)).trans hc⟩
 hp:=h.hp
 rr:=uZ h.rr hb
 ll:=uZ h.ll hb
 zz:=uZ h.zz hb
 el:=h.el
 ee i z ev h1 h2:=by have⟨a,b⟩:=h.ee i z ev h1 h2;exact⟨uZ a hb,b⟩
 nd:=h.nd
 mo:=h.mo
 sz:=h.sz
 sm:=h.sm
theorem zX.cells{more:Bool}{row:Option Nat}(h:zX w B p rv zv lv more R bP K)(hg:w.grownBy w1 row)(az:some p≠row):
  w1.cell? (O p 0)=some rv/\w1.cell? (O p 1)=some zv/\w1.cell? (O p 2)=some lv/\w1.cell? (O p 3)=some (.bool more)/\∃cs,w1.heap[p]? =some (G cs 168 (0,0)):=by
 refine⟨hg.cell (a:=(O p 0)) h.c0 az,hg.cell (a:=(O p 1)) h.c1 az,hg.cell (a:=(O p 2)) h.c2 az,hg.cell (a:=(O p 3)) h.c3 az,?_⟩;have⟨cs,hc⟩:=h.tp;exact⟨cs,(hg.5 p (ZI h.c0) az).trans hc⟩
theorem vcm(h:∃cs,w.heap[p]? =some (G cs t (0,0)))(i:Nat):w.frozen? (O p i)=false:=by
 have⟨cs,hc⟩:=h;simp[World.frozen?,hc]
theorem vdg(h:∃cs,w.heap[p]? =some (G cs t (0,0))):∃cs,(w.setCell (O p o) v).heap[p]? =some (G cs t (0,0)):=by
 have⟨cs,hc⟩:=h;exact⟨_,heap_setCell_same w p o cs t v hc⟩
theorem vbl{u:Value}(h:w.ownsRow base e size v n xs)(az:some p≠v.ownBlock):(w.setCell (O p o) u).ownsRow base e size v n xs:=
 World.ownsRow.kept h (jck w p o u) (.inr (Ne.symm az))
theorem vcR:(116:TypeId)≠168:=RN
theorem vcS:(122:TypeId)≠168:=RN
theorem vb2:(120:TypeId)≠168:=RN
theorem vcc:(154:TypeId)≠168:=RN
theorem veB:(116:TypeId)≠120:=RN
theorem vgr:(116:TypeId)≠122:=RN
theorem vgs:(116:TypeId)≠154:=RN
theorem veC:(122:TypeId)≠120:=RN
theorem vgt:(122:TypeId)≠154:=RN
theorem vcQ:(120:TypeId)≠154:=RN
theorem vdf{q:Nat}{s:TypeId}(h:∃cs,w.heap[p]? =some (G cs s (0,0)))(h2:∃cs,w.heap[q]? =some (G cs t (0,0)))(az:s≠t):p≠q:=by
 rintro rfl;have⟨c1,h1⟩:=h;have⟨c2,h2⟩:=h2;rw[h1]at h2;injection h2 with h2
 injection h2 with _ h3
 exact az h3
theorem zX.more{more:Bool}(h:zX w B p rv zv lv more R bP K):zX w B p rv zv lv more R bP (K+1):=
 { h with ee:=λi z ev h1 h2=>by have⟨a,b,c⟩:=h.ee i z ev h1 h2;exact⟨a,b,Q⟩,sz:=by have:=h.sz;omega }
theorem zX.vgR{T4:Value}{more:Bool}{x:ZQ}(h:zX w B p rv zv lv more R bP K)(hg:w.grownBy w1 rv.ownBlock)
  (ai:w1.ownsRow B 116 9 T4 (R.Vv.length+1) ((R.Vv.map ZQ.cs).flatten++x.cs)) (hx:R8 x):zX (w1.setCell (O p 0) T4) B p T4 zv lv more ⟨R.Vv++[x],R.YU,R.YW⟩ bP (K+1):=by
 have Kx:=vah h.rr h.tp vcR;have⟨d0,d1,d2,d3,dt⟩:=h.cells hg Kx;have ao:w1.ownsRow B 116 9 T4 (R.Vv++[x]).length ((R.Vv++[x]).map ZQ.cs).flatten:=by
  rw[FB,MZ,List.flatten_append];simpa using ai
 have kl:=World.ownsRow.kept h.ll hg (vbt h.ll h.rr (Ne.symm vgr));have kz:=World.ownsRow.kept h.zz hg (vbt h.zz h.rr (Ne.symm veB))
 exact {
  c0:=Bf _ _ _ d0
  c1:=by rw[ZT _ _ _ _ M];exact d1
  c2:=by rw[ZT _ _ _ _ M];exact d2
  c3:=by rw[ZT _ _ _ _ M];exact d3
  tp:=vdg dt
  hp:=h.hp
  rr:=vbl ao (vah ao dt vcR)
  ll:=vbl kl (vah kl dt vcS)
  zz:=vbl kz (vah kz dt vb2)
  el:=h.el
  ee:=λi z ev h1 h2=>by
   have⟨a,b,c⟩:=h.ee i z ev h1 h2;have ka:=World.ownsRow.kept a hg (vbt a h.rr (Ne.symm vgs));exact⟨vbl ka (vah ka dt vcc),b,Q⟩
  nd:=h.nd
  mo:=h.mo
  sz:=by have:=h.sz;simp only[FB,List.length_cons,List.length_nil];omega
  sm:=⟨λy hy=>by
   rcases List.mem_append.1 hy with hy|hy
   .exact h.sm.1 y hy
   .simp at hy;subst hy;exact hx,h.sm.2⟩ }
theorem zX.vgQ{T3:Value}{more:Bool}{x:vH}(h:zX w B p rv zv lv more R bP K)(hg:w.grownBy w1 lv.ownBlock)
  (ai:w1.ownsRow B 122 2 T3 (R.YW.length+1) ((R.YW.map vH.cs).flatten++x.cs)) (hx:x.vR.size<=8000/\x.name.size<=8000):zX (w1.setCell (O p 2) T3) B p rv zv T3 more ⟨R.Vv,R.YU,R.YW++[x]⟩ bP (K+1):=by
 have Kx:=vah h.ll h.tp vcS;have⟨d0,d1,d2,d3,dt⟩:=h.cells hg Kx;have ao:w1.ownsRow B 122 2 T3 (R.YW++[x]).length ((R.YW++[x]).map vH.cs).flatten:=by
  rw[FB,MZ,List.flatten_append];simpa using ai
 have kr:=World.ownsRow.kept h.rr hg (vbt h.rr h.ll vgr);have kz:=World.ownsRow.kept h.zz hg (vbt h.zz h.ll (Ne.symm veC))
 exact {
  c0:=by rw[ZT _ _ _ _ M];exact d0
  c1:=by rw[ZT _ _ _ _ M];exact d1
  c2:=Bf _ _ _ d2
  c3:=by rw[ZT _ _ _ _ M];exact d3
  tp:=vdg dt
  hp:=h.hp
  rr:=vbl kr (vah kr dt vcR)
  ll:=vbl ao (vah ao dt vcS)
  zz:=vbl kz (vah kz dt vb2)
  el:=h.el
  ee:=λi z ev h1 h2=>by
   have⟨a,b,c⟩:=h.ee i z ev h1 h2;have ka:=World.ownsRow.kept a hg (vbt a h.ll (Ne.symm vgt));exact⟨vbl ka (vah ka dt vcc),b,Q⟩
  nd:=h.nd
  mo:=h.mo
  sz:=by have:=h.sz;simp only[FB,List.length_cons,List.length_nil];omega
  sm:=⟨h.sm.1,h.sm.2.1,λy hy=>by
   rcases List.mem_append.1 hy with hy|hy
   .exact h.sm.2.2 y hy
   .simp at hy;subst hy;exact hx⟩ }
theorem vdM(h:bP.length=zs.length):vae (zs++[z]) (bP++[ev])=vae zs bP++[[I z.name,ev]]:=by
 unfold vae;rw[List.zipWith_append h.symm];rfl
theorem zX.veQ{ge:Nat}{oO:Value}{more:Bool}{nm:ByteArray}(h:zX w B p rv zv lv more R bP K)(hE:w.ownsRow B 154 6 (so ge 1 1) 1 E.cs)(K0:∀(i:Nat) ev,bP[i]? =some ev->ev.ownBlock≠some ge)(hg:w.grownBy w1 zv.ownBlock)
  (ai:w1.ownsRow B 120 2 oO (R.YU.length+1) ((vae R.YU bP).flatten++[I nm,so ge 1 1])) (hx:nm.size<=8000) (T5:E8 E):zX ((w1.setCell (O p 1) oO).setCell (O p 3) (.bool m2)) B p rv oO lv m2 ⟨R.Vv,R.YU++[⟨nm,[E]⟩],R.YW⟩ (bP++[so ge 1 1]) (K+1):=by
 have Kx:=vah h.zz h.tp vb2;have⟨d0,d1,d2,d3,dt⟩:=h.cells hg Kx;have ao:w1.ownsRow B 120 2 oO (R.YU++[(⟨nm,[E]⟩:pE)]).length (vae (R.YU++[⟨nm,[E]⟩]) (bP++[so ge 1 1])).flatten:=by
  rw[FB,vdM h.el,List.flatten_append];simpa using ai
 have kr:=World.ownsRow.kept h.rr hg (vbt h.rr h.zz veB);have kl:=World.ownsRow.kept h.ll hg (vbt h.ll h.zz veC);have kE:=World.ownsRow.kept hE hg (vbt hE h.zz (Ne.symm vcQ));have SY:=vdg (o:=1) (v:=oO) dt;have Th:=vdg (o:=3) (v:=.bool m2) SY;have s2:∀{e:TypeId} {size:Nat} {v:Value} {n:Nat} {xs:List Value},w1.ownsRow B e size v n xs->e≠168->((w1.setCell (O p 1) oO).setCell (O p 3) (.bool m2)).ownsRow B e size v n xs:=λhh he=>vbl (vbl hh (vah hh dt he)) (vah hh dt he)
 exact {
  c0:=by rw[ZT _ _ _ _ M,ZT _ _ _ _ M];exact d0
  c1:=by rw[ZT _ _ _ _ M];exact Bf _ _ _ d1
  c2:=by rw[ZT _ _ _ _ M,ZT _ _ _ _ M];exact d2
  c3:=Bf _ _ _ (u:=.bool more) (by rw[ZT _ _ _ _ M];exact d3)
  tp:=Th
  hp:=h.hp
  rr:=s2 kr vcR
  ll:=s2 kl vcS
  zz:=s2 ao vb2
  el:=by simp[h.el]
  ee:=λi z ev h1 h2=>by
   by_cases hi:i<R.YU.length
   .rw[N9 hi]at h1
    rw[N9 (by rw[h.el];exact hi)]at h2;have⟨a,b,c⟩:=h.ee i z ev h1 h2;exact⟨s2 (World.ownsRow.kept a hg (vbt a h.zz (Ne.symm vcQ))) vcc,b,Q⟩
   .have hl:=(pO h1).1
    simp at hl;obtain rfl:i=R.YU.length:=Q;rw[List.getElem?_append_right (ZD _)]at h1;rw[List.getElem?_append_right (by rw[h.el];exact ZD _),h.el]at h2;simp at h1 h2;subst h1 h2;exact⟨by simpa using s2 kE vcc,M,M⟩
  nd :=λi j ev Cn h1 h2 he=>by
   have l1:=(pO h1).1;have l2:=(pO h2).1;simp at l1 l2;by_cases hi:i<bP.length
   .rw[N9 hi]at h1
    by_cases hj:j<bP.length
    .rw[N9 hj]at h2
     exact h.nd i j ev Cn h1 h2 he
    .rw[List.getElem?_append_right Q]at h2
     rw[show j-bP.length=0 by omega]at h2;simp at h2;subst h2;exact absurd he (by simpa [Value.ownBlock]using K0 i ev h1)
   .by_cases hj:j<bP.length
    .rw[N9 hj]at h2
     rw[List.getElem?_append_right Q,show i-bP.length=0 by omega]at h1;simp at h1;subst h1;exact absurd he.symm (by simpa [Value.ownBlock]using K0 j Cn h2)
    .omega
  mo:=λ_=>M
  sz:=by have:=h.sz;simp only[FB,List.length_cons,List.length_nil];omega
  sm:=⟨h.sm.1,λz hz=>by
   rcases List.mem_append.1 hz with hz|hz
   .exact h.sm.2.1 z hz
   .simp at hz;subst hz;exact⟨hx,λe he=>by simp at he;subst he;exact T5⟩,h.sm.2.2⟩ }
theorem vdL:∀(zs:List pE) (bP:List Value),bP.length=zs.length->(vae zs bP).flatten.length=zs.length*2
 |[],[],_=>rfl
 |z::zs,e::es,h=>by
  have ih:=vdL zs es (by simpa using h);unfold vae at *;simp only[List.zipWith_cons_cons,List.flatten_cons,FB,List.length_cons,List.length_nil,ih];omega
 |[],_::_,h=>by simp at h
 |_::_,[],h=>by simp at h
theorem vjq{z':pE}{Cn:Value}(h:bP.length=zs.length)(hn:z'.name=z.name):(vae (zs++[z]) (bP++[ev])).flatten.set (zs.length*2+1) Cn=(vae (zs++[z']) (bP++[Cn])).flatten:=by
 rw[vdM h,vdM h,List.flatten_append,List.flatten_append,hn];have hl:=vdL zs bP h;rw[List.set_append_right _ _ Q,hl,show zs.length*2+1-zs.length*2=1 by omega];rfl
theorem zX.vgP{gz cz g1 aC H:Nat}{more:Bool}{Rs:List ZQ}{Zs:List pE}{Ls:List vH}{Es:List Value}(h:zX w B p rv (so gz (Zs.length+1) cz) lv more ⟨Rs,Zs++[z],Ls⟩ (Es++[ev]) K)(uS:Es.length=Zs.length)(hg:w.grownBy w1 ev.ownBlock)
  (ai:w1.ownsRow B 154 6 (so g1 (z.ZC.length+1) aC) (z.ZC.length+1) ((z.ZC.map ZH.cs).flatten++E.cs)) (bE:ev.ownBlock=some g1\/g1=H) (hH:w.heap.size=H) (T5:E8 E):
  zX ((w1.setCell (O gz (Zs.length*2+1)) (so g1 (z.ZC.length+1) aC)).setCell (O p 3) (.bool m2)) B p rv (so gz (Zs.length+1) cz) lv m2 ⟨Rs,Zs++[⟨z.name,z.ZC++[E]⟩],Ls⟩ (Es++[so g1 (z.ZC.length+1) aC]) (K+1):=by
 have sP:(Zs++[z])[Zs.length]? =some z:=M;have qI:(Es++[ev])[Zs.length]? =some ev:=by rw[<- uS];simp
 have⟨jb,Ti,Tj⟩:=h.ee Zs.length z ev sP qI;have Kx:=vah jb h.tp vcc;have⟨d0,d1,d2,d3,dt⟩:=h.cells hg Kx;have ao:w1.ownsRow B 154 6 (so g1 (z.ZC.length+1) aC) (z.ZC++[E]).length ((z.ZC++[E]).map ZH.cs).flatten:=by
  rw[FB,MZ,List.flatten_append];simpa using ai
 have lz:w.ownsRow B 120 2 (so gz (Zs.length+1) cz) (Zs.length+1) (vae (Zs++[z]) (Es++[ev])).flatten:=by have:=h.zz;simpa using this
 have kr:=World.ownsRow.kept h.rr hg (vbt h.rr jb vgs);have kl:=World.ownsRow.kept h.ll hg (vbt h.ll jb vgt);have kz:=World.ownsRow.kept lz hg (vbt lz jb vcQ);have Ek:∃cur,w1.heap[gz]? =some (G cur 120 (0,0)):=vdD kz rfl;have RJ:p≠gz:=vdf dt Ek (Ne.symm vb2);have Tc:=(World.ownsRow.stored kz (Zs.length*2+1) (so g1 (z.ZC.length+1) aC)).1;rw[vjq (z:=z) (z':=⟨z.name,z.ZC++[E]⟩) uS rfl]at Tc;have SY:∃cs,(w1.setCell (O gz (Zs.length*2+1)) (so g1 (z.ZC.length+1) aC)).heap[p]? =some (G cs 168 (0,0)):=by
  have⟨cs,hc⟩:=dt;exact⟨cs,(heap_setCell_other _ _ p _ (by simpa using RJ)).trans hc⟩
 have s2:∀{e:TypeId} {size:Nat} {v:Value} {n:Nat} {xs:List Value},w1.ownsRow B e size v n xs->e≠168->e≠120->((w1.setCell (O gz (Zs.length*2+1)) (so g1 (z.ZC.length+1) aC)).setCell (O p 3) (.bool m2)).ownsRow B e size v n xs:=λhh he hz=>vbl (vbl hh (vah hh Ek hz)) (vah hh dt he)
 have ho:∀j x,w1.cell? (O p j)=some x->(w1.setCell (O gz (Zs.length*2+1)) (so g1 (z.ZC.length+1) aC)).cell? (O p j)=some x:=λj x hx=>by rw[ZT _ _ _ _ vQj];exact hx
 have iL:∀(i:Nat) v,Es[i]? =some v->v.ownBlock≠some g1:=λi v hv he=>by
  have hl:=(pO hv).1;have eQ:(Es++[ev])[i]? =some v:=by rw[N9 hl];exact hv
  rcases bE with hh|hh
  .have:=h.nd i Zs.length v ev eQ qI (he.trans hh.symm)
   omega
  .have Tl:(Zs++[z])[i]? =some Zs[i]:=by rw[N9 Q];exact ZV Q
   have:=World.ownsRow.lt (h.ee i _ v Tl eQ).1 _ he;omega
 exact {
  c0:=by rw[ZT _ _ _ _ M];exact ho 0 _ d0
  c1:=by rw[ZT _ _ _ _ M];exact ho 1 _ d1
  c2:=by rw[ZT _ _ _ _ M];exact ho 2 _ d2
  c3:=Bf _ _ _ (u:=.bool more) (ho 3 _ d3)
  tp:=vdg SY
  hp:=h.hp
  rr:=s2 kr vcR veB
  ll:=s2 kl vcS veC
  zz:=by have:=vbl (p:=p) (o:=3) (u:=.bool m2) Tc (vah Tc SY vb2);simpa using this
  el:=by simp[uS]
  ee:=λi y v h1 h2=>by
   by_cases hi:i<Zs.length
   .have ES:(Zs++[z])[i]? =some y:=by rw[N9 hi]at h1 ⊢;exact h1
    have rZ:(Es++[ev])[i]? =some v:=by rw[N9 Q]at h2 ⊢;exact h2
    have⟨a,b,c⟩:=h.ee i y v ES rZ;have az:v.ownBlock≠ev.ownBlock:=λe=>by have:=h.nd i Zs.length v ev rZ qI e;omega
    exact⟨s2 (World.ownsRow.kept a hg (.inr az)) vcc (Ne.symm vcQ),b,Q⟩
   .have hl:=(pO h1).1
    simp at hl;obtain rfl:i=Zs.length:=Q;rw[List.getElem?_append_right (ZD _)]at h1;rw[List.getElem?_append_right Q,uS]at h2;simp at h1 h2;subst h1 h2;exact⟨s2 ao vcc (Ne.symm vcQ),M,RO⟩
  nd :=λi j v v' h1 h2 he=>by
   have l1:=(pO h1).1;have l2:=(pO h2).1;simp at l1 l2;by_cases hi:i<Es.length
   .rw[N9 hi]at h1
    by_cases hj:j<Es.length
    .rw[N9 hj]at h2
     exact h.nd i j v v' (by rw[N9 hi];exact h1) (by rw[N9 hj];exact h2) he
    .rw[List.getElem?_append_right Q,show j-Es.length=0 by omega]at h2
     simp at h2;subst h2;exact absurd he (by simpa [Value.ownBlock]using iL i v h1)
   .by_cases hj:j<Es.length
    .rw[N9 hj]at h2
     rw[List.getElem?_append_right Q,show i-Es.length=0 by omega]at h1;simp at h1;subst h1;exact absurd he.symm (by simpa [Value.ownBlock]using iL j v' h2)
    .omega
  mo:=λ_=>M
  sz:=by have:=h.sz;simp only[FB,List.length_cons,List.length_nil]at this ⊢;omega
  sm :=⟨h.sm.1,λy hy=>by
   rcases List.mem_append.1 hy with hy|hy
   .exact h.sm.2.1 y (List.mem_append_left _ hy)
   .simp at hy
    subst hy;have:=h.sm.2.1 z M
    exact⟨this.1,λe he=>by
     rcases List.mem_append.1 he with he|he
     .exact this.2 e he
     .simp at he;subst he;exact T5⟩,h.sm.2.2⟩ }
theorem viR(l:List ZQ):∀r∈l.map ZQ.cs,r.length=9:=λr hr=>by
 obtain⟨x,_,rfl⟩:=List.mem_map.1 hr;rfl
theorem vhQ(l:List vH):∀r∈l.map vH.cs,r.length=2:=λr hr=>by
 obtain⟨x,_,rfl⟩:=List.mem_map.1 hr;rfl
theorem vhf(l:List ZH):∀r∈l.map ZH.cs,r.length=6:=λr hr=>by
 obtain⟨x,_,rfl⟩:=List.mem_map.1 hr;rfl
theorem vgz:∀(zs:List pE) (bP:List Value),∀r∈vae zs bP,r.length=2
 |[],_,r,hr=>by simp[vae]at hr
 |_::_,[],r,hr=>by simp[vae]at hr
 |z::zs,e::es,r,hr=>by
  unfold vae at hr;simp only[List.zipWith_cons_cons,List.mem_cons]at hr;rcases hr with rfl|hr
  .rfl
  .exact vgz zs es r hr
theorem veH(zs:List pE)(bP:List Value)(h:bP.length=zs.length):(vae zs bP).length=zs.length:=by unfold vae;simp[h]
theorem vjp{i:Nat}(h1:zs[i]? =some z)(h2:bP[i]? =some ev):(vae zs bP)[i]? =some [I z.name,ev]:=by
 unfold vae;rw[List.getElem?_zipWith,h1,h2]
theorem vfX(rr:w.ownsRow B 116 9 rv R.Vv.length (R.Vv.map ZQ.cs).flatten)(ll:w.ownsRow B 122 2 lv R.YW.length (R.YW.map vH.cs).flatten)(zz:w.ownsRow B 120 2 zv R.YU.length (vae R.YU bP).flatten)(el:bP.length=R.YU.length)(ee:∀(i:Nat) z ev,R.YU[i]? =some z->bP[i]? =some ev->w.ownsRow B 154 6 ev z.ZC.length (z.ZC.map ZH.cs).flatten):Zd w (.agg #[rv,zv,lv]) R:=by
 obtain⟨a,ca,rfl,hA,_⟩:=jbe (rows:=R.Vv.map ZQ.cs) (by simpa using rr) (viR _);obtain⟨c,cc,rfl,hC,_⟩:=jbe (rows:=R.YW.map vH.cs) (by simpa using ll) (vhQ _);obtain⟨b,cb,rfl,hZ,_⟩:=jbe (rows:=vae R.YU bP) (by rw[veH _ _ el];exact zz) (vgz _ _);refine⟨⟨a,b,c,ca,cb,cc,by simp[veH _ _ el],hA,?_,hC⟩⟩;rcases hZ with h0|⟨g,o,hb,hc⟩
 .left
  have:=veH R.YU bP el;rw[h0]at this;exact List.eq_nil_of_length_eq_zero this.symm
 .right
  refine⟨g,o,hb,λi z hz=>?_⟩;have hl:=(pO hz).1;obtain⟨ev,jb⟩:∃ev,bP[i]? =some ev:=⟨_,ZV (by rw[el];exact hl)⟩;have ap:=vjp hz jb;have he:=ee i z ev hz jb;obtain⟨ae,ce,rfl,hE,_⟩:=jbe (rows:=z.ZC.map ZH.cs) (by simpa using he) (vhf _);refine⟨hc i 0 _ _ ap rfl,_,hc i 1 _ _ ap rfl,ae,ce,M,hE⟩
theorem zX.rel{more:Bool}(h:zX w B p rv zv lv more R bP K):Zd w (.agg #[rv,zv,lv]) R:=vfX h.rr h.ll h.zz h.el λi z ev h1 h2=>(h.ee i z ev h1 h2).1
theorem zX.okR{more:Bool}(h:zX w B p rv zv lv more R bP K)(hK:K<=8001):R.ok:=by
 have hs:=h.sz;refine⟨⟨by unfold maxLen;omega,λx hx=>(h.sm.1 x hx).ok⟩,⟨by unfold maxLen;omega,λz hz=>?_⟩,⟨by unfold maxLen;omega,λl hl=>?_⟩⟩
 .have⟨i,hi⟩:=lgo hz
  obtain⟨ev,jb⟩:∃ev,bP[i]? =some ev:=⟨_,ZV (by rw[h.el];exact(pO hi).1)⟩;have⟨_,_,h3⟩:=h.ee i z ev hi jb;have⟨n1,n2⟩:=h.sm.2.1 z hz;refine⟨by unfold maxLen;omega,by unfold maxLen;omega,λe he=>?_⟩;have⟨q1,q2,q3⟩:=n2 e he;unfold ZH.ok maxLen;omega
 .have⟨n1,n2⟩:=h.sm.2.2 l hl
  unfold vH.ok maxLen;omega
theorem zX.vf7{more:Bool}(h:zX w B p rv zv lv more R bP K)(hK:K<=8001):R.small:=by
 have hs:=h.sz;refine⟨Q,Q,Q,λz hz=>?_⟩;have⟨i,hi⟩:=lgo hz;obtain⟨ev,jb⟩:∃ev,bP[i]? =some ev:=⟨_,ZV (by rw[h.el];exact(pO hi).1)⟩;have⟨_,_,h3⟩:=h.ee i z ev hi jb;omega
