import Derived.Test.YtbbgeelamjmgaaaGreatDoorRdBd
set_option maxRecDepth 20000
set_option maxHeartbeats 0
set_option linter.unusedSimpArgs false
open Go.RowKit Go.Sort
namespace Go.Proofs.YtbbgeelamjmgaaaGreatDoor
variable{w:World}{base n size:Nat}{e:TypeId}{v:Value}{xs:List Value}
structure vaJ(B p K:Nat)(w:World)(e:Ending)(w':World):Prop where
 ex:∃(ok:Bool) (rv zv lv:Value) (more:Bool) (R:ZW) (bP:List Value),e=V (.bool ok)/\zX w' B p rv zv lv more R bP (K+1)/\Below B w w'
theorem vca(h:w.ownsRow base e size v n xs):∃a cap,v=U a n cap:=by
 rcases h.2 with⟨rfl,rfl⟩|⟨g,cap,cur,rfl,_⟩
 .exact⟨none,0,rfl⟩
 .exact⟨_,cap,rfl⟩
theorem j3y{B:Nat}{w1 w2:World}(hb:Below B w w1)(hg:w1.grownBy w2 v.ownBlock)(ho:w1.ownsRow base e size v n xs)(hB:B<=base)(hs:B<=w1.heap.size):Below B w w2:=
 hb.grown hg hs (λk hk=>Nat.le_trans hB (World.ownsRow.lt ho k hk).1)
theorem viA(B p K b n cap:Nat)(rv zv lv:Value)(R:ZW)(bP:List Value)(w:World)(h:zX w B p rv zv lv false R bP K)(hB:B<=w.heap.size)(hK:K<=8001)(hW:vas w b 0 n)(hn:1<=n)(s0:ByteArray)(c0:w.cell? (O b 0)=some (I s0))(h0:(s0.toList==[82,117,108,101])=true):
  C 114 #[.pointer (some (O p 0)),so b n cap] w λe w'=>vaJ B p K w e w':=by
 have⟨i0,hi,aG,aH,aF⟩:=jr3;have c3:=h.c3;unfold C;go_in;go_wp2_with fail;refine(vih b 0 n cap _ hW).mono ?_;rintro e w1 hP;obtain⟨⟨n0,l0,h0,m0,o0,a0,f0,v0,e0⟩,kx,rfl,rX,hb1⟩:=hP.ex;unfold ZQ.v;have h1:=h.below hb1;clear hP c3 c0;go_upto_region 10 with fail
 obtain⟨wv,cO⟩:∃x:World,(w1.alloc (G #[I n0,J l0,J h0,J m0,I o0,J a0,I f0,J v0,I e0] 116))=x:=⟨_,rfl⟩;have jo:Bw w1 wv:=by rw[<- cO];exact ZA _ _
 have k0:wv.cell? (O w1.heap.size 0)=some (I n0):=by rw[<- cO];simp[go_sem]
 have k1:wv.cell? (O w1.heap.size 1)=some (J l0):=by rw[<- cO];simp[go_sem]
 have k2:wv.cell? (O w1.heap.size 2)=some (J h0):=by rw[<- cO];simp[go_sem]
 have k3:wv.cell? (O w1.heap.size 3)=some (J m0):=by rw[<- cO];simp[go_sem]
 have k4:wv.cell? (O w1.heap.size 4)=some (I o0):=by rw[<- cO];simp[go_sem]
 have k5:wv.cell? (O w1.heap.size 5)=some (J a0):=by rw[<- cO];simp[go_sem]
 have k6:wv.cell? (O w1.heap.size 6)=some (I f0):=by rw[<- cO];simp[go_sem]
 have k7:wv.cell? (O w1.heap.size 7)=some (J v0):=by rw[<- cO];simp[go_sem]
 have k8:wv.cell? (O w1.heap.size 8)=some (I e0):=by rw[<- cO];simp[go_sem]
 have h2:=h1.below jo;have AW:B<=wv.heap.size:=Nat.le_trans hB (Nat.le_trans hb1.size jo.size);have BR:Below B w wv:=(hb1.mono hB).trans (jo.mono (Nat.le_trans hB hb1.size));rw[cO];clear cO;have⟨ra,rc,pV⟩:=vca h2.rr;subst pV;have⟨N,hN⟩:=ZL R.Vv.length;have io:wv.ownsRow B 116 9 (U ra N rc) N (R.Vv.map ZQ.cs).flatten:=by have:=h2.rr;rw[hN]at this;exact this
 have Ds:N<=8001:=by have:=h2.sz.1;omega
 have q0:wv.cell? (O p 0)=some (U ra N rc):=by have:=h2.c0;rw[hN]at this;exact this
 have qf:wv.frozen? (O p 0)=false:=vcm h2.tp 0;have az:some p≠(U ra N rc).ownBlock:=vah io h2.tp vcR;have HD:Hid (zX wv B p (U ra N rc) zv lv false R bP K):=by have:=h2;rw[hN]at this;exact this
 have HN:=hid hN;have ba:∀o,Bw wv (wv.drew.alloc o):=λo=>(show Bw wv wv.drew from rW wv).alloc (ZD _) o
 have vt:p<wv.heap.size:=ZI q0;clear h2 h1 h hb1 jo hN;go_region_law (refine step_append_lies _ Si (.tmp 71) (.tmp 73) 23 Si B 116 i0 (.agg #[Rn,J 0,J 0,J 0,Rn,J 0,Rn,J 0,Rn]) 9 104 Tryz.underlying23 hi aG aH aF rfl Q (U ra N rc) N (R.Vv.map ZQ.cs).flatten Si (nO (w:=wv.drew) io _) (O wv.heap.size 0) 1 1 [I n0,J l0,J h0,J m0,I o0,J a0,I f0,J v0,I e0] Si rfl (Ka _ _ _) (by intro u hu;simp at hu;rcases hu with rfl|rfl|rfl|rfl|rfl|rfl|rfl|rfl|rfl<;>rfl) Q (by unfold maxLen;omega) Q RO _ rfl ?_;intro g1 aC w2 av af bE hlt1;have r1:=af.cell (a:=(O p 0)) (Z6 (w1:=wv) q0 (ba _)) az;have r2:=(af.frozen_far (O p 0) RO az).trans (((Z4 (ba _)).2 _ _ vt).trans qf))
 all_goals
  have h3:=(HD.out.below (ba _)).vgR (x:=⟨n0,l0,h0,m0,o0,a0,f0,v0,e0⟩) af (by rw[HN.out];exact av) rX;have ar:=(j3y (BR.trans ((ba _).mono AW)) af (nO (w:=wv.drew) io _) (ZD _) RO).setCell (p:=(O p 0)) HD.out.hp (so g1 (N+1) aC);have HP:Hid (∀k,vaJ B p K w (V (.bool k)) (w2.setCell (O p 0) (so g1 (N+1) aC))):=λk=>⟨⟨k,_,_,_,_,_,_,rfl,h3,ar⟩⟩
  clear h3 ar af bE hlt1 r1 r2 av;generalize w2.setCell (O p 0) (so g1 (N+1) aC)=w3 at *;go_wp2;go_ret;exact HP.out _
theorem viz(B p K b n cap:Nat)(rv zv lv:Value)(R:ZW)(bP:List Value)(w:World)(h:zX w B p rv zv lv false R bP K)(s0:ByteArray)(hn:1<=n)(c0:w.cell? (O b 0)=some (I s0))(h0:(s0.toList==[82,117,108,101])=false)(h1:(s0.toList==[90,111,110,101])=false)(h2:(s0.toList==[76,105,110,107])=false):
  C 114 #[.pointer (some (O p 0)),so b n cap] w λe w'=>vaJ B p K w e w':=by
 have c3:=h.c3;have HP:Hid (vaJ B p K w (V (.bool false)) w):=⟨⟨_,_,_,_,_,_,_,rfl,h.more,ZU _ _⟩⟩;clear h;unfold C;go_in;go_wp2;go_ret;exact HP.out
theorem vix(B p K b n cap:Nat)(rv zv lv:Value)(R:ZW)(bP:List Value)(w:World)(h:zX w B p rv zv lv false R bP K)(s0:ByteArray)(hn:1<=n)(gF:n<=8001)(vk:n≠3)(c0:w.cell? (O b 0)=some (I s0))(h0:(s0.toList==[82,117,108,101])=false)(h1:(s0.toList==[90,111,110,101])=false)(h2:(s0.toList==[76,105,110,107])=true):
  C 114 #[.pointer (some (O p 0)),so b n cap] w λe w'=>vaJ B p K w e w':=by
 have c3:=h.c3;have hg:((n:Int) != 3)=true:=RO;have HP:Hid (vaJ B p K w (V (.bool false)) w):=⟨⟨_,_,_,_,_,_,_,rfl,h.more,ZU _ _⟩⟩;clear h;unfold C;go_in;go_wp2;go_ret;exact HP.out
theorem viw(B p K b cap:Nat)(rv zv lv:Value)(R:ZW)(bP:List Value)(w:World)(h:zX w B p rv zv lv false R bP K)(hB:B<=w.heap.size)(hK:K<=8001)(tb:∃cs,w.heap[b]? =some (G cs 9 (0,0)))(s0 s1 s2:ByteArray)(c0:w.cell? (O b 0)=some (I s0))(c1:w.cell? (O b 1)=some (I s1))(c2:w.cell? (O b 2)=some (I s2))(z1:s1.size<=8000)(z2:s2.size<=8000)(h0:(s0.toList==[82,117,108,101])=false)(h1:(s0.toList==[90,111,110,101])=false)(h2:(s0.toList==[76,105,110,107])=true):
  C 114 #[.pointer (some (O p 0)),so b 3 cap] w λe w'=>vaJ B p K w e w':=by
 have⟨i0,hi,aG,aH,aF⟩:=jr4;have c3:=h.c3;have⟨ra,rc,pV⟩:=vca h.ll;subst pV;have⟨N,hN⟩:=ZL R.YW.length;have io:w.ownsRow B 122 2 (U ra N rc) N (R.YW.map vH.cs).flatten:=by have:=h.ll;rw[hN]at this;exact this
 have Ds:N<=8001:=by have:=h.sz.2.2;omega
 have q0:w.cell? (O p 2)=some (U ra N rc):=by have:=h.c2;rw[hN]at this;exact this
 have qf:w.frozen? (O p 2)=false:=vcm h.tp 2;have az:some p≠(U ra N rc).ownBlock:=vah io h.tp vcS;have HD:Hid (zX w B p rv zv (U ra N rc) false R bP K):=by have:=h;rw[hN]at this;exact this
 have HN:=hid hN;have ba:∀o,Bw w (w.drew.alloc o):=λo=>(show Bw w w.drew from rW w).alloc (ZD _) o
 have vt:p<w.heap.size:=ZI q0;have QT:p≠b:=vdf h.tp tb RN;have JW:some b≠(U ra N rc).ownBlock:=vah io tb RN;have rV:=λw=>jbu s1 w (by unfold maxLen;omega)
 have pP:=λw=>jbu s2 w (by unfold maxLen;omega)
 clear h hN tb;unfold C;go_in;go_upto_region 22 with fail
 go_region_law (refine step_append_lies _ Si (.tmp 129) (.tmp 137) 25 Si B 122 i0 (.agg #[Rn,Rn]) 2 32 Tryz.underlying25 hi aG aH aF rfl Q (U ra N rc) N (R.YW.map vH.cs).flatten Si (nO (w:=w.drew) io _) (O w.heap.size 0) 1 1 [I s1,I s2] Si rfl (Ka _ _ _) (by intro u hu;simp at hu;rcases hu with rfl|rfl<;>rfl) Q (by unfold maxLen;omega) Q RO _ rfl ?_;intro g1 aC w2 av af bE hlt1;have r1:=af.cell (a:=(O p 2)) (Z6 (w1:=w) q0 (ba _)) az;have r2:=(af.frozen_far (O p 2) RO az).trans (((Z4 (ba _)).2 _ _ vt).trans qf))
 all_goals
  have h3:=(HD.out.below (ba _)).vgQ (x:=⟨s1,s2⟩) af (by rw[HN.out];exact av) ⟨z1,z2⟩;have ar:=(j3y (((ba _).mono hB)) af (nO (w:=w.drew) io _) (ZD _) RO).setCell (p:=(O p 2)) HD.out.hp (so g1 (N+1) aC);have HP:Hid (∀k,vaJ B p K w (V (.bool k)) (w2.setCell (O p 2) (so g1 (N+1) aC))):=λk=>⟨⟨k,_,_,_,_,_,_,rfl,h3,ar⟩⟩
  have e1:(w2.setCell (O p 2) (so g1 (N+1) aC)).cell? (O b 1)=some (I s1):=by rw[ZT _ _ _ _ vQj];exact af.cell (a:=(O b 1)) (Z6 (w1:=w) c1 (ba _)) JW
  have e2:(w2.setCell (O p 2) (so g1 (N+1) aC)).cell? (O b 2)=some (I s2):=by rw[ZT _ _ _ _ vQj];exact af.cell (a:=(O b 2)) (Z6 (w1:=w) c2 (ba _)) JW
  clear h3 ar af bE hlt1 r1 r2 av;generalize w2.setCell (O p 2) (so g1 (N+1) aC)=w3 at *;go_wp2_with fail;refine(rV _).mono ?_;rintro e w4 ⟨rfl,yj⟩;have yj:=yj.symm;subst yj;cases hk:BH s1 with
  |false=>
   go_wp2;go_ret;exact HP.out _
  |true=>
   go_wp2_with fail;refine(pP _).mono ?_;rintro e w4 ⟨rfl,yj⟩;have yj:=yj.symm;subst yj;go_wp2;go_ret;exact HP.out _
theorem viC(B p K b cap:Nat)(rv zv lv:Value)(R:ZW)(bP:List Value)(w:World)(h:zX w B p rv zv lv false R bP K)(s0:ByteArray)(c0:w.cell? (O b 0)=some (I s0))(h0:(s0.toList==[82,117,108,101])=false)(h1:(s0.toList==[90,111,110,101])=true):
  C 114 #[.pointer (some (O p 0)),so b 1 cap] w λe w'=>vaJ B p K w e w':=by
 have c3:=h.c3;have HP:Hid (vaJ B p K w (V (.bool false)) w):=⟨⟨_,_,_,_,_,_,_,rfl,h.more,ZU _ _⟩⟩;clear h;unfold C;go_in;go_wp2;go_ret;exact HP.out
theorem viD(B p K b n cap:Nat)(rv zv lv:Value)(R:ZW)(bP:List Value)(w:World)(h:zX w B p rv zv lv false R bP K)(hB:B<=w.heap.size)(hK:K<=8001)(tb:∃cs,w.heap[b]? =some (G cs 9 (0,0)))(hn:2<=n)(gF:n<=8001)(eh:n<=cap)(hc:¬cap=2)(hW:vas w b 0 n)(s0 s1:ByteArray)(c0:w.cell? (O b 0)=some (I s0))(c1:w.cell? (O b 1)=some (I s1))(z1:s1.size<=8000)(h0:(s0.toList==[82,117,108,101])=false)(h1:(s0.toList==[90,111,110,101])=true):
  C 114 #[.pointer (some (O p 0)),so b n cap] w λe w'=>vaJ B p K w e w':=by
 have⟨i0,hi,aG,aH,aF⟩:=jr1;have c3:=h.c3;have bR:¬(n:Int)<2:=Q;have cQ:(1:Int)<(n:Int):=Q
 have sq:vas w b 2 (n-2):=⟨λk hk=>by
  have⟨s,h1,h2⟩:=hW.ex (2+k) Q
  exact⟨s,by rw[Nat.zero_add]at h1;exact h1,h2⟩⟩
 have rV:=λw=>jbu s1 w (by unfold maxLen;omega)
 unfold C;go_in;go_wp2_with fail;refine(veo b 2 (n-2) (cap-2) _ Q Q sq).mono ?_;rintro e w1 hP;obtain⟨⟨e0,e1,e2,e3,e4,e5⟩,m2,kx,rfl,rX,hb1⟩:=hP.ex;unfold ZH.v;have h1:=h.below hb1;have rG:=Z6 c1 hb1;have xL:∃cs,w1.heap[b]? =some (G cs 9 (0,0)):=by
  have⟨cs,hc⟩:=tb;exact⟨cs,(hb1.block b (ZI c1)).trans hc⟩
 clear hP c3 c0 sq hW;go_upto_region 16 with fail
 obtain⟨wv,cO⟩:∃x:World,(w1.alloc (G #[J e0,I e1,J e2,I e3,J e4,I e5] 154))=x:=⟨_,rfl⟩;have jo:Bw w1 wv:=by rw[<- cO];exact ZA _ _
 have k0:wv.cell? (O w1.heap.size 0)=some (J e0):=by rw[<- cO];simp[go_sem]
 have k1:wv.cell? (O w1.heap.size 1)=some (I e1):=by rw[<- cO];simp[go_sem]
 have k2:wv.cell? (O w1.heap.size 2)=some (J e2):=by rw[<- cO];simp[go_sem]
 have k3:wv.cell? (O w1.heap.size 3)=some (I e3):=by rw[<- cO];simp[go_sem]
 have k4:wv.cell? (O w1.heap.size 4)=some (J e4):=by rw[<- cO];simp[go_sem]
 have k5:wv.cell? (O w1.heap.size 5)=some (I e5):=by rw[<- cO];simp[go_sem]
 have h2:=h1.below jo;have vp:=Z6 rG jo;have tl:∃cs,wv.heap[b]? =some (G cs 9 (0,0)):=by
  have⟨cs,hc⟩:=xL;exact⟨cs,(jo.block b (ZI rG)).trans hc⟩
 have AW:B<=wv.heap.size:=Nat.le_trans hB (Nat.le_trans hb1.size jo.size);have BR:Below B w wv:=(hb1.mono hB).trans (jo.mono (Nat.le_trans hB hb1.size));rw[cO];clear cO;have⟨ra,rc,pV⟩:=vca h2.zz;subst pV;have⟨N,hN⟩:=ZL R.YU.length;have io:wv.ownsRow B 120 2 (U ra N rc) N (vae R.YU bP).flatten:=by have:=h2.zz;rw[hN]at this;exact this
 have Ds:N<=8001:=by have:=h2.sz.2.1;omega
 have q0:wv.cell? (O p 1)=some (U ra N rc):=by have:=h2.c1;rw[hN]at this;exact this
 have qf:wv.frozen? (O p 1)=false:=vcm h2.tp 1;have az:some p≠(U ra N rc).ownBlock:=vah io h2.tp vb2;have QT:p≠b:=vdf h2.tp tl RN;have JW:some b≠(U ra N rc).ownBlock:=vah io tl RN;have HD:Hid (zX wv B p rv (U ra N rc) lv false R bP K):=by have:=h2;rw[hN]at this;exact this
 have HN:=hid hN;have ba:∀o o2,Bw wv ((wv.alloc o).alloc o2).drew:=λo o2=>⟨rfl,rfl,rfl,((ZA wv o).alloc M o2).size,((ZA wv o).alloc M o2).block⟩
 have aM:∀o o2,((wv.alloc o).alloc o2).drew.ownsRow B 120 2 (U ra N rc) N (vae R.YU bP).flatten:=λo o2=>World.ownsRow.drew (nO (nO io o) o2)
 have lx:∀j u,[I s1,U (some (O wv.heap.size 0)) 1 1][j]? =some u->(((wv.alloc (G #[J e0,I e1,J e2,I e3,J e4,I e5] 154)).alloc (G #[I s1,U (some (O wv.heap.size 0)) 1 1] 120)).drew).cell? (((O (wv.heap.size+1) 0):Addr).add j)=some u:=λj u hj=>by
  have:=Ka (wv.alloc (G #[J e0,I e1,J e2,I e3,J e4,I e5] 154)) [I s1,U (some (O wv.heap.size 0)) 1 1] 120 j u hj;rw[show(wv.alloc (G #[J e0,I e1,J e2,I e3,J e4,I e5] 154)).heap.size=wv.heap.size+1 by simp]at this;exact this
 have iy:∀o o2,B<=((wv.alloc o).alloc o2).drew.heap.size:=λo o2=>Nat.le_trans AW (ba o o2).size
 have vt:p<wv.heap.size:=ZI q0;have HE:Hid (∀o2,(((wv.alloc (G #[J e0,I e1,J e2,I e3,J e4,I e5] 154)).alloc o2).drew).ownsRow B 154 6 (U (some (O wv.heap.size 0)) 1 1) 1 [J e0,I e1,J e2,I e3,J e4,I e5]):=λo2=>World.ownsRow.drew (nO (World.ownsRow_lit wv #[J e0,I e1,J e2,I e3,J e4,I e5] 1 AW (by unfold maxLen;omega) rfl) o2)
 have HF:Hid (∀(i:Nat) ev,bP[i]? =some ev->ev.ownBlock≠some wv.heap.size):=λi ev jb hg=>by
  have hl:=(pO jb).1;rw[HD.out.el]at hl;have:=World.ownsRow.lt (HD.out.ee i _ ev (ZV hl) jb).1 _ hg;omega
 clear h2 h1 h hb1 jo hN tb xL tl rG c1;have c1a:(wv.alloc (G #[J e0,I e1,J e2,I e3,J e4,I e5] 154)).cell? (O b 1)=some (I s1):=Z6 (w1:=wv) vp (ZA _ _);have L9:(wv.alloc (G #[J e0,I e1,J e2,I e3,J e4,I e5] 154)).cell? (O p 1)=some (U ra N rc):=Z6 (w1:=wv) q0 (ZA _ _);have P7:((wv.alloc (G #[J e0,I e1,J e2,I e3,J e4,I e5] 154)).alloc (G #[I s1,U (some (O wv.heap.size 0)) 1 1] 120)).cell? (O p 1)=some (U ra N rc):=Z6 (w1:=wv) q0 ((ZA _ _).alloc M _);go_region_law (refine step_append_lies _ Si (.tmp 96) (.tmp 103) 24 Si B 120 i0 (.agg #[Rn,nS]) 2 40 Tryz.underlying24 hi aG aH aF rfl Q (U ra N rc) N (vae R.YU bP).flatten Si (aM _ _) (O (wv.heap.size+1) 0) 1 1 [I s1,U (some (O wv.heap.size 0)) 1 1] Si rfl lx (by intro u hu;simp at hu;rcases hu with rfl|rfl<;>rfl) Q (by unfold maxLen;omega) Q (iy _ _) _ rfl ?_;intro g1 aC w2 av af bE hlt1;have r1:=af.cell (a:=(O p 1)) (Z6 (w1:=wv) q0 (ba _ _)) az;have r2:=(af.frozen_far (O p 1) (Nat.lt_of_lt_of_le vt (ba _ _).size) az).trans (((Z4 (ba _ _)).2 _ _ vt).trans qf))
 all_goals
  have h3:=(HD.out.below (ba (G #[J e0,I e1,J e2,I e3,J e4,I e5] 154) (G #[I s1,U (some (O wv.heap.size 0)) 1 1] 120))).veQ (m2:=m2) (nm:=s1) (E:=⟨e0,e1,e2,e3,e4,e5⟩) (HE.out (G #[I s1,U (some (O wv.heap.size 0)) 1 1] 120)) HF.out af (by rw[HN.out];exact av) z1 rX;have ac:=(j3y (BR.trans ((ba (G #[J e0,I e1,J e2,I e3,J e4,I e5] 154) (G #[I s1,U (some (O wv.heap.size 0)) 1 1] 120)).mono AW)) af (aM _ _) (ZD _) (iy _ _)).setCell (p:=(O p 1)) HD.out.hp (so g1 (N+1) aC);have ar:=ac.setCell (p:=(O p 3)) HD.out.hp (.bool m2);have⟨d0,d1,d2,d3,dt⟩:=(HD.out.below (ba (G #[J e0,I e1,J e2,I e3,J e4,I e5] 154) (G #[I s1,U (some (O wv.heap.size 0)) 1 1] 120))).cells af az;have x3:(w2.setCell (O p 1) (so g1 (N+1) aC)).cell? (O p 3)=some (.bool false):=by rw[ZT _ _ _ _ M];exact d3
  have f3:(w2.setCell (O p 1) (so g1 (N+1) aC)).frozen? (O p 3)=false:=by rw[World.frozen?_setCell];exact vcm dt 3
  have Ot:((w2.setCell (O p 1) (so g1 (N+1) aC)).setCell (O p 3) (.bool m2)).cell? (O b 1)=some (I s1):=by rw[ZT _ _ _ _ vQj,ZT _ _ _ _ vQj];exact af.cell (a:=(O b 1)) (Z6 (w1:=wv) vp (ba _ _)) JW
  have HP:Hid (∀k,vaJ B p K w (V (.bool k)) ((w2.setCell (O p 1) (so g1 (N+1) aC)).setCell (O p 3) (.bool m2))):=λk=>⟨⟨k,_,_,_,_,_,_,rfl,h3,ar⟩⟩
  clear h3 ac ar af bE hlt1 r1 r2 av d0 d1 d2 d3 dt;generalize w2.setCell (O p 1) (so g1 (N+1) aC)=w3 at *;go_upto_region 18 with fail
  generalize w3.setCell (O p 3) (.bool m2)=w4 at *;cases kx with
  |false=>
   go_wp2;go_ret;exact HP.out _
  |true=>
   go_wp2_with fail;refine(rV _).mono ?_;rintro e w5 ⟨rfl,oK⟩;have oK:=oK.symm;subst oK;go_wp2;go_ret;exact HP.out _
theorem viE(B p K b:Nat)(rv zv lv:Value)(R:ZW)(bP:List Value)(w:World)(h:zX w B p rv zv lv false R bP K)(hB:B<=w.heap.size)(hK:K<=8001)(tb:∃cs,w.heap[b]? =some (G cs 9 (0,0)))(s0 s1:ByteArray)(c0:w.cell? (O b 0)=some (I s0))(c1:w.cell? (O b 1)=some (I s1))(z1:s1.size<=8000)(h0:(s0.toList==[82,117,108,101])=false)(h1:(s0.toList==[90,111,110,101])=true):
  C 114 #[.pointer (some (O p 0)),so b 2 2] w λe w'=>vaJ B p K w e w':=by
 have⟨i0,hi,aG,aH,aF⟩:=jr1;have c3:=h.c3;have rV:=λw=>jbu s1 w (by unfold maxLen;omega)
 unfold C;go_in;go_wp2_with fail;refine(veo b 0 0 0 _ Q Q ⟨λk hk=>Q⟩).mono ?_;rintro e w1 hP;obtain⟨⟨e0,e1,e2,e3,e4,e5⟩,m2,kx,rfl,rX,hb1⟩:=hP.ex;unfold ZH.v;have h1:=h.below hb1;have rG:=Z6 c1 hb1;have xL:∃cs,w1.heap[b]? =some (G cs 9 (0,0)):=by
  have⟨cs,hc⟩:=tb;exact⟨cs,(hb1.block b (ZI c1)).trans hc⟩
 clear hP c3 c0;go_upto_region 16 with fail
 obtain⟨wv,cO⟩:∃x:World,(w1.alloc (G #[J e0,I e1,J e2,I e3,J e4,I e5] 154))=x:=⟨_,rfl⟩;have jo:Bw w1 wv:=by rw[<- cO];exact ZA _ _
 have k0:wv.cell? (O w1.heap.size 0)=some (J e0):=by rw[<- cO];simp[go_sem]
 have k1:wv.cell? (O w1.heap.size 1)=some (I e1):=by rw[<- cO];simp[go_sem]
 have k2:wv.cell? (O w1.heap.size 2)=some (J e2):=by rw[<- cO];simp[go_sem]
 have k3:wv.cell? (O w1.heap.size 3)=some (I e3):=by rw[<- cO];simp[go_sem]
 have k4:wv.cell? (O w1.heap.size 4)=some (J e4):=by rw[<- cO];simp[go_sem]
 have k5:wv.cell? (O w1.heap.size 5)=some (I e5):=by rw[<- cO];simp[go_sem]
 have h2:=h1.below jo;have vp:=Z6 rG jo;have tl:∃cs,wv.heap[b]? =some (G cs 9 (0,0)):=by
  have⟨cs,hc⟩:=xL;exact⟨cs,(jo.block b (ZI rG)).trans hc⟩
 have AW:B<=wv.heap.size:=Nat.le_trans hB (Nat.le_trans hb1.size jo.size);have BR:Below B w wv:=(hb1.mono hB).trans (jo.mono (Nat.le_trans hB hb1.size));rw[cO];clear cO;have⟨ra,rc,pV⟩:=vca h2.zz;subst pV;have⟨N,hN⟩:=ZL R.YU.length;have io:wv.ownsRow B 120 2 (U ra N rc) N (vae R.YU bP).flatten:=by have:=h2.zz;rw[hN]at this;exact this
 have Ds:N<=8001:=by have:=h2.sz.2.1;omega
 have q0:wv.cell? (O p 1)=some (U ra N rc):=by have:=h2.c1;rw[hN]at this;exact this
 have qf:wv.frozen? (O p 1)=false:=vcm h2.tp 1;have az:some p≠(U ra N rc).ownBlock:=vah io h2.tp vb2;have QT:p≠b:=vdf h2.tp tl RN;have JW:some b≠(U ra N rc).ownBlock:=vah io tl RN;have HD:Hid (zX wv B p rv (U ra N rc) lv false R bP K):=by have:=h2;rw[hN]at this;exact this
 have HN:=hid hN;have ba:∀o o2,Bw wv ((wv.alloc o).alloc o2).drew:=λo o2=>⟨rfl,rfl,rfl,((ZA wv o).alloc M o2).size,((ZA wv o).alloc M o2).block⟩
 have aM:∀o o2,((wv.alloc o).alloc o2).drew.ownsRow B 120 2 (U ra N rc) N (vae R.YU bP).flatten:=λo o2=>World.ownsRow.drew (nO (nO io o) o2)
 have lx:∀j u,[I s1,U (some (O wv.heap.size 0)) 1 1][j]? =some u->(((wv.alloc (G #[J e0,I e1,J e2,I e3,J e4,I e5] 154)).alloc (G #[I s1,U (some (O wv.heap.size 0)) 1 1] 120)).drew).cell? (((O (wv.heap.size+1) 0):Addr).add j)=some u:=λj u hj=>by
  have:=Ka (wv.alloc (G #[J e0,I e1,J e2,I e3,J e4,I e5] 154)) [I s1,U (some (O wv.heap.size 0)) 1 1] 120 j u hj;rw[show(wv.alloc (G #[J e0,I e1,J e2,I e3,J e4,I e5] 154)).heap.size=wv.heap.size+1 by simp]at this;exact this
 have iy:∀o o2,B<=((wv.alloc o).alloc o2).drew.heap.size:=λo o2=>Nat.le_trans AW (ba o o2).size
 have vt:p<wv.heap.size:=ZI q0;have HE:Hid (∀o2,(((wv.alloc (G #[J e0,I e1,J e2,I e3,J e4,I e5] 154)).alloc o2).drew).ownsRow B 154 6 (U (some (O wv.heap.size 0)) 1 1) 1 [J e0,I e1,J e2,I e3,J e4,I e5]):=λo2=>World.ownsRow.drew (nO (World.ownsRow_lit wv #[J e0,I e1,J e2,I e3,J e4,I e5] 1 AW (by unfold maxLen;omega) rfl) o2)
 have HF:Hid (∀(i:Nat) ev,bP[i]? =some ev->ev.ownBlock≠some wv.heap.size):=λi ev jb hg=>by
  have hl:=(pO jb).1;rw[HD.out.el]at hl;have:=World.ownsRow.lt (HD.out.ee i _ ev (ZV hl) jb).1 _ hg;omega
 clear h2 h1 h hb1 jo hN tb xL tl rG c1;have c1a:(wv.alloc (G #[J e0,I e1,J e2,I e3,J e4,I e5] 154)).cell? (O b 1)=some (I s1):=Z6 (w1:=wv) vp (ZA _ _);have L9:(wv.alloc (G #[J e0,I e1,J e2,I e3,J e4,I e5] 154)).cell? (O p 1)=some (U ra N rc):=Z6 (w1:=wv) q0 (ZA _ _);have P7:((wv.alloc (G #[J e0,I e1,J e2,I e3,J e4,I e5] 154)).alloc (G #[I s1,U (some (O wv.heap.size 0)) 1 1] 120)).cell? (O p 1)=some (U ra N rc):=Z6 (w1:=wv) q0 ((ZA _ _).alloc M _);go_region_law (refine step_append_lies _ Si (.tmp 96) (.tmp 103) 24 Si B 120 i0 (.agg #[Rn,nS]) 2 40 Tryz.underlying24 hi aG aH aF rfl Q (U ra N rc) N (vae R.YU bP).flatten Si (aM _ _) (O (wv.heap.size+1) 0) 1 1 [I s1,U (some (O wv.heap.size 0)) 1 1] Si rfl lx (by intro u hu;simp at hu;rcases hu with rfl|rfl<;>rfl) Q (by unfold maxLen;omega) Q (iy _ _) _ rfl ?_;intro g1 aC w2 av af bE hlt1;have r1:=af.cell (a:=(O p 1)) (Z6 (w1:=wv) q0 (ba _ _)) az;have r2:=(af.frozen_far (O p 1) (Nat.lt_of_lt_of_le vt (ba _ _).size) az).trans (((Z4 (ba _ _)).2 _ _ vt).trans qf))
 all_goals
  have h3:=(HD.out.below (ba (G #[J e0,I e1,J e2,I e3,J e4,I e5] 154) (G #[I s1,U (some (O wv.heap.size 0)) 1 1] 120))).veQ (m2:=m2) (nm:=s1) (E:=⟨e0,e1,e2,e3,e4,e5⟩) (HE.out (G #[I s1,U (some (O wv.heap.size 0)) 1 1] 120)) HF.out af (by rw[HN.out];exact av) z1 rX;have ac:=(j3y (BR.trans ((ba (G #[J e0,I e1,J e2,I e3,J e4,I e5] 154) (G #[I s1,U (some (O wv.heap.size 0)) 1 1] 120)).mono AW)) af (aM _ _) (ZD _) (iy _ _)).setCell (p:=(O p 1)) HD.out.hp (so g1 (N+1) aC);have ar:=ac.setCell (p:=(O p 3)) HD.out.hp (.bool m2);have⟨d0,d1,d2,d3,dt⟩:=(HD.out.below (ba (G #[J e0,I e1,J e2,I e3,J e4,I e5] 154) (G #[I s1,U (some (O wv.heap.size 0)) 1 1] 120))).cells af az;have x3:(w2.setCell (O p 1) (so g1 (N+1) aC)).cell? (O p 3)=some (.bool false):=by rw[ZT _ _ _ _ M];exact d3
  have f3:(w2.setCell (O p 1) (so g1 (N+1) aC)).frozen? (O p 3)=false:=by rw[World.frozen?_setCell];exact vcm dt 3
  have Ot:((w2.setCell (O p 1) (so g1 (N+1) aC)).setCell (O p 3) (.bool m2)).cell? (O b 1)=some (I s1):=by rw[ZT _ _ _ _ vQj,ZT _ _ _ _ vQj];exact af.cell (a:=(O b 1)) (Z6 (w1:=wv) vp (ba _ _)) JW
  have HP:Hid (∀k,vaJ B p K w (V (.bool k)) ((w2.setCell (O p 1) (so g1 (N+1) aC)).setCell (O p 3) (.bool m2))):=λk=>⟨⟨k,_,_,_,_,_,_,rfl,h3,ar⟩⟩
  clear h3 ac ar af bE hlt1 r1 r2 av d0 d1 d2 d3 dt;generalize w2.setCell (O p 1) (so g1 (N+1) aC)=w3 at *;go_upto_region 18 with fail
  generalize w3.setCell (O p 3) (.bool m2)=w4 at *;cases kx with
  |false=>
   go_wp2;go_ret;exact HP.out _
  |true=>
   go_wp2_with fail;refine(rV _).mono ?_;rintro e w5 ⟨rfl,oK⟩;have oK:=oK.symm;subst oK;go_wp2;go_ret;exact HP.out _
theorem viB(B p K b n cap:Nat)(rv zv lv:Value)(R:ZW)(bP:List Value)(w:World)(h:zX w B p rv zv lv false R bP K)(hB:B<=w.heap.size)(hK:K<=8001)(tb:∃cs,w.heap[b]? =some (G cs 9 (0,0)))(hn:2<=n)(gF:n<=8001)(eh:n<=cap)(hW:vas w b 0 n)(s0 s1:ByteArray)(c0:w.cell? (O b 0)=some (I s0))(c1:w.cell? (O b 1)=some (I s1))(z1:s1.size<=8000)(h0:(s0.toList==[82,117,108,101])=false)(h1:(s0.toList==[90,111,110,101])=true):
  C 114 #[.pointer (some (O p 0)),so b n cap] w λe w'=>vaJ B p K w e w':=by
 by_cases hc:cap=2
 .subst hc
  obtain rfl:n=2:=Q;exact viE B p K b rv zv lv R bP w h hB hK tb s0 s1 c0 c1 z1 h0 h1
 .exact viD B p K b n cap rv zv lv R bP w h hB hK tb hn gF eh hc hW s0 s1 c0 c1 z1 h0 h1
