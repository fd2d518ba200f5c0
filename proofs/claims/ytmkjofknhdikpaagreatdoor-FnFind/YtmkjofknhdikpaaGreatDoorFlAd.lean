import Derived.Test.YtmkjofknhdikpaaGreatDoorFWd
import Derived.Test.YtmkjofknhdikpaaGreatDoorQCd
import Derived.Test.YtmkjofknhdikpaaGreatDoorFiBd
set_option maxRecDepth 100000
set_option maxHeartbeats 0
set_option linter.unusedSimpArgs false
open Go.RowKit
namespace Go.Proofs.YtmkjofknhdikpaaGreatDoor
variable{w:World}{cm:Array Oper}{o:Oper}{K:Act->World->Prop}{OU:Exit->Act->World->Prop}{E:Prop}{q:Nat}{L:List TD}{ac:Act}
section
open Go.RowKit Go.Sort
theorem vhy{W:World}{a:Act}{base m bytes:Nat}{pa:Value}{e:TypeId}{z:Value}{d8:List Value}(oz:o.guard=none)(s x:Operand)(t:TypeId)
  (ho:o.op=.call { callee:=.builtin .append,args:=#[s,x],argTypes:=#[t,t] }) (ht:Tryz.prog.underlying t=some (.slice e)) (hi:∃i:TypeInfo,Tryz.prog.info? e=some i/\i.zero=some z/\i.size=q/\i.bytes=bytes) (hz:z.cells.size=q) (hq:0<q) (hy:bytes<=104)
  (v:Value) (n:Nat) (xs:List Value) (hs:a.eval s=v) (ai:W.ownsRow base e q v n xs) (hx:a.eval x=pa) (hF:Xg w pa q m d8) (hb:Bw w W) (hm:n+m<=1048600) (n6:base<=W.heap.size)
  (h:∀v' W',W'.ownsRow base e q v' (n+m) (xs++d8)->W.grownBy W' v.ownBlock->K (a.put o.dst v') W'):if Region.wanted o (yielded cm a.tmps)=true then Oper.wp Tryz.prog o a W K OU else E:=by
 obtain⟨i,i0,i1,i2,i3⟩:=hi;have Kl:(n+m)*bytes<=140737488355328:=Nat.le_trans (Nat.mul_le_mul hm hy) (by omega);obtain⟨f1,f2,p,c,rfl,f3,f4⟩:=hF;cases p with
 |none=>
  obtain rfl:=f3 rfl;obtain rfl:d8=[]:=List.eq_nil_of_length_eq_zero (by omega);have hw:Region.wanted o (yielded cm a.tmps)=true:=by simp[Region.wanted,oz]
  have dk:=vc2 (w:=W) base t o.type e i q c ht i0 v n xs ai;rw[if_pos hw];unfold Oper.wp;simp[execOp,ho,resolve,invoke,builtin,hs,hx,dk,Result.andThen];exact h v W (by simpa using ai) (World.grownBy.refl _ _)
 |some O=>exact vcm oz s x t ho base e i z q bytes ht i0 i1 i2 i3 hz hq v n xs hs ai O m c d8 hx f1 (f4 _ hb O rfl) f2 (by unfold maxLen;omega) Kl n6 λv' W' h1 h2=>h v' W' h1 h2
theorem vhd{w':World}{g:Nat}{p:Option Addr}{rows:List (List Value)}{t:TypeId}(h:Za w p q rows)(hg:w.grownBy w' (some g))(hd:w.heap[g]? =some (.cells #[] t (0,0))):Za w' p q rows:=by
 rcases h with h|⟨b,o,rfl,hc⟩
 .exact .inl h
 .refine .inr ⟨b,o,rfl,λi j r c hr hj=>?_⟩
  have h1:=hc i j r c hr hj;refine hg.cell h1 (λe=>?_);injection e with e
  subst e;simp[World.cell?,hd]at h1
structure FP(w0 W:World)(L1 L2:List TZ)(d:Option Nat)(x1 y x2:Option Value):Prop where
 TQ:Bw w0 W
 kd:∀g,d=some g->W.heap[g]? =some (.cells #[] 56 (0,0))/\w0.heap.size<=g
 k1:∀v,x1=some v->∃p c,v=.slice p L1.length c/\Za W p 2 (L1.map TZ.cs)
 ky:∀v,y=some v->W.ownsRow w0.heap.size 56 2 v L1.length (L1.map TZ.cs).flatten
 k2:∀v,x2=some v->∃p c,v=.slice p L2.length c/\Za W p 2 (L2.map TZ.cs)
section
variable {w0 W W' : World} {L1 L2 : List TZ} {d : Option Nat} {x1 y x2 : Option Value} {g B : Nat} {v v1 v2 vy : Value}
theorem FP.below(h:FP w0 W L1 L2 d x1 y x2)(hb:Bw W W'):FP w0 W' L1 L2 d x1 y x2:=⟨h.TQ.trans (hb.mono h.TQ.size),λg e=>⟨(hb.block g (Vt (h.kd g e).1)).trans (h.kd g e).1,(h.kd g e).2⟩,λv e=>by obtain⟨p,c,e1,e2⟩:=h.k1 v e;exact⟨p,c,e1,e2.below hb⟩,λv e=>UG (h.ky v e) hb,λv e=>by obtain⟨p,c,e1,e2⟩:=h.k2 v e;exact⟨p,c,e1,e2.below hb⟩⟩
theorem FP.build(h:FP w0 W L1 L2 none x1 y x2):FP w0 (W.alloc (.cells #[] 56)) L1 L2 (some W.heap.size) x1 y x2:=
 have k:=h.below (TK W (.cells #[] 56))
 ⟨k.TQ,λg e=>by cases e;exact⟨heap_alloc_new W _,h.TQ.size⟩,k.k1,k.ky,k.k2⟩
theorem vbM{L:List TZ}(ho:Zb W B v L):∃p c,v=.slice p L.length c/\Za W p 2 (L.map TZ.cs):=by
 obtain⟨p,c,rfl⟩:=YW ho;exact⟨p,c,rfl,(vah ho (λ_=>rfl)).1⟩
theorem FP.vdq(h:FP w0 W L1 L2 d none y x2)(ho:Zb W' B v L1)(hb:Bw W W'):FP w0 W' L1 L2 d (some v) y x2:=
 have k:=h.below hb
 ⟨k.TQ,k.kd,λu e=>by cases e;exact vbM ho,k.ky,k.k2⟩
theorem FP.vfa(h:FP w0 W L1 L2 d x1 y none)(ho:Zb W' B v L2)(hb:Bw W W'):FP w0 W' L1 L2 d x1 y (some v):=
 have k:=h.below hb
 ⟨k.TQ,k.kd,k.k1,k.ky,λu e=>by cases e;exact vbM ho⟩
theorem FP.app1(h:FP w0 W L1 L2 (some g) (some v1) none x2)(hm:L1.length<=1048576)(oz:o.guard=none)
  (ho:o.op=.call { callee:=.builtin .append,args:=#[.tmp 58,.tmp 62],argTypes:=#[29,29] }) (hs:ac.eval (.tmp 58)=so g 0 0) (hx:ac.eval (.tmp 62)=v1)
  (hh:∀v' W',FP w0 W' L1 L2 none none (some v') x2->K (ac.put o.dst v') W'):if Region.wanted o (yielded cm ac.tmps)=true then Oper.wp Tryz.prog o ac W K OU else E:=by
 obtain⟨hd,K7⟩:=h.kd g rfl;obtain⟨p1,c1,rfl,hq1⟩:=h.k1 v1 rfl;refine vb2 _ _ _ oz ho Tryz.underlying29 jft rfl (by omega) (by omega) hs hd K7 hx (Xg.of (w:=W) (c:=c1) hq1 (by simp) (Yh (cs:=TZ.cs) (λ_=>rfl) _) jbn) (Ui _ _) hm λp cp W' h1 hg=>hh _ W' ⟨h.TQ.grown hg h.TQ.size (λk hk=>by injection hk with hk;omega),λg e=>(by cases e),λv e=>(by cases e),λv e=>by cases e;exact h1,λv e=>?_⟩
 obtain⟨p2,c2,e1,e2⟩:=h.k2 v e;exact⟨p2,c2,e1,vhd e2 hg hd⟩
theorem FP.ve3(h:FP w0 W L1 L2 none none (some vy) (some v2))(hm:L1.length+L2.length<=1048576)(oz:o.guard=none)
  (ho:o.op=.call { callee:=.builtin .append,args:=#[.tmp 63,.tmp 68],argTypes:=#[29,29] }) (hs:ac.eval (.tmp 63)=vy) (hx:ac.eval (.tmp 68)=v2)
  (hh:∀p c W',Za W' p 2 ((L1++L2).map TZ.cs)->Bw w0 W'->K (ac.put o.dst (.slice p (L1++L2).length c)) W'):if Region.wanted o (yielded cm ac.tmps)=true then Oper.wp Tryz.prog o ac W K OU else E:=by
 obtain⟨p2,c2,rfl,hq2⟩:=h.k2 v2 rfl;have hy:=h.ky vy rfl;refine vhy (w:=W) oz _ _ _ ho Tryz.underlying29 jft rfl (by omega) (by omega) vy _ _ hs hy hx (Xg.of (w:=W) (c:=c2) hq2 (by simp) (Yh (cs:=TZ.cs) (λ_=>rfl) _) jbn) (Ui _ _) (by omega) h.TQ.size λv' W' h1 hg=>?_
 have h2:W'.ownsRow w0.heap.size 56 2 v' (L1++L2).length ((L1++L2).map TZ.cs).flatten:=by
  rw[Vq,Vr,List.flatten_append];exact h1
 obtain⟨p,c,rfl,h3⟩:=vbM h2;exact hh p c W' h3 (h.TQ.grown hg h.TQ.size (λk hk=>(World.ownsRow.lt hy k hk).1))
end
end
theorem vf4(a:Option Addr)(len cap:Nat)(w:World)(h:Y2 w a len)(hl:len<=1048576):
  C 10 #[.slice a len cap,J 0,J 5] w λe w'=>∃x:Int,e=.returned (J x)/\0<=x/\x<=4/\Bw w w':=by
 by_cases h0:len=0
 .subst h0
  delta C;go_in;go_wp2;go_ret;exact⟨0,rfl,(by omega),(by omega),Ui _ _⟩
 .rcases h with h|⟨b,o,rfl,hc⟩
  .exact absurd h h0
  .obtain⟨z,hz,z0,z1⟩:=hc 0 (by omega)
   rw[Nat.add_zero]at hz;have q0:((len:Int)==0)=false:=(by simp;omega);have q1:(0:Int).tmod len=0:=Int.zero_tmod _;have q2:(0:Int)<len:=(by omega);have q3:(len:Int)≠0:=(by omega);delta C;go_in;go_wp2;go_ret;exact⟨z%5,rfl,(by omega),(by omega),Ui _ _⟩
theorem vdY(l:List TZ)(a b:Option Addr)(n ca cb:Nat)(w:World)(hA:Za w a 2 (l.map TZ.cs))(hB:Za w b 2 (l.map TZ.cs))(hn:l.length=n)(hl:n<=1048576):
  C 6 #[.slice a n ca,.slice b n cb] w λe w'=>e=.returned (.bool true)/\Bw w w':=by
 have HN:=hid hn;clear hn;delta C;go_in;go_wp2;go_loopw [5] (λs wr=>∃i:Nat,i<=n/\s=J i/\Bw w wr) (λs _=>n-(intOf s).toNat)
 .exact⟨0,(by omega),rfl,Ui _ _⟩
 ·
  obtain⟨wa,dS⟩:=UL wr;subst dS;obtain⟨i,hin,rfl,aK⟩:=hrel;by_cases hlt:i<n
  .have a1:(i:Int)<(n:Int):=(by omega)
   obtain⟨x,hx⟩:∃v,l[i]? =some v:=⟨_,Ug (by have:=HN.out;omega)⟩;obtain⟨p,o,rfl,hc⟩:=(hA.below aK).at (i:=i) (r:=x.cs) (by rw[Uv,hx];rfl);obtain⟨p2,o2,rfl,hd⟩:=(hB.below aK).at (i:=i) (r:=x.cs) (by rw[Uv,hx];rfl);have c0:wa.cell? (O p (o+i*2))=some (J x.at_):=hc 0 _ rfl;have c1:wa.cell? (O p (o+i*2+1))=some (J x.id):=hc 1 _ rfl;have d0:wa.cell? (O p2 (o2+i*2))=some (J x.at_):=hd 0 _ rfl;have d1:wa.cell? (O p2 (o2+i*2+1))=some (J x.id):=hd 1 _ rfl;clear hc hd hx;obtain⟨xa,xi⟩:=x;dsimp only at *;go_wp2_with fail;go_quiet (fail);go_wp2;go_roundw
   .exact⟨i+1,(by omega),(by go_num),below_drewN aK _⟩
   .simp[intOf];omega
  .have a1:¬(i:Int)<(n:Int):=(by omega)
   go_wp2;go_ret;exact⟨rfl,aK⟩
theorem vf5(l:List TD)(a b:Option Addr)(n ca cb:Nat)(w:World)(hA:Za w a 6 (l.map TD.cs))(hB:Za w b 6 (l.map TD.cs))(hn:l.length=n)(hl:n<=1048576):
  C 13 #[.slice a n ca,.slice b n cb] w λe w'=>e=.returned (.bool true)/\Bw w w':=by
 have HN:=hid hn;clear hn;delta C;go_in;go_wp2;go_loopw [5] (λs wr=>∃i:Nat,i<=n/\s=J i/\Bw w wr) (λs _=>n-(intOf s).toNat)
 .exact⟨0,(by omega),rfl,Ui _ _⟩
 ·
  obtain⟨wa,dS⟩:=UL wr;subst dS;obtain⟨i,hin,rfl,aK⟩:=hrel;by_cases hlt:i<n
  .have a1:(i:Int)<(n:Int):=(by omega)
   obtain⟨x,hx⟩:∃v,l[i]? =some v:=⟨_,Ug (by have:=HN.out;omega)⟩;obtain⟨p,o,rfl,hc⟩:=(hA.below aK).at (i:=i) (r:=x.cs) (by rw[Uv,hx];rfl);obtain⟨p2,o2,rfl,hd⟩:=(hB.below aK).at (i:=i) (r:=x.cs) (by rw[Uv,hx];rfl);have c0:wa.cell? (O p (o+i*6))=some (J x.id):=hc 0 _ rfl;have c1:=hc 1 _ rfl;have c2:=hc 2 _ rfl;have c3:=hc 3 _ rfl;have c4:=hc 4 _ rfl;have c5:=hc 5 _ rfl;have d0:wa.cell? (O p2 (o2+i*6))=some (J x.id):=hd 0 _ rfl;have d1:=hd 1 _ rfl;have d2:=hd 2 _ rfl;have d3:=hd 3 _ rfl;have d4:=hd 4 _ rfl;have d5:=hd 5 _ rfl;have az:=λw=>jil x x w
   rw[show Yf x x=true by simp[Yf]]at az;clear hc hd hx;obtain⟨x1,x2,x3,x4,x5,x6⟩:=x;dsimp only at *;go_wp2_with fail;go_quiet (fail);go_wp2;go_roundw
   .exact⟨i+1,(by omega),(by go_num),below_drewN aK _⟩
   .simp[intOf];omega
  .have a1:¬(i:Int)<(n:Int):=(by omega)
   go_wp2;go_ret;exact⟨rfl,aK⟩
theorem vfl{g:TD->Int × Bool}{lo Uj hi:Int}(hL:L.Pairwise λx y=>x.id<y.id)(h1:lo<=Uj+1)(h2:Uj<=hi):UK (VZ g lo Uj) L++UK (VZ g (Uj+1) hi) L=UK (VZ g lo hi) L:=by
 have hb:∀{a b:Int} {x:TZ},x∈UK (VZ g a b) L↔∃e∈L,(g e).2=true/\a<=(g e).1/\(g e).1<=b/\x=⟨(g e).1,e.id⟩:=λ{a b x}=>by
  rw[vb8];unfold VZ WJ;simp only[UM,decide_eq_true_eq];constructor
  .rintro⟨e,he,⟨p1,p2,p3⟩,p4⟩;exact⟨e,he,p1,p2,p3,p4⟩
  .rintro⟨e,he,p1,p2,p3,p4⟩;exact⟨e,he,⟨p1,p2,p3⟩,p4⟩
 refine jus (List.pairwise_append.mpr ⟨jq2 hL,jq2 hL,λx hx y hy=>?_⟩) (jq2 hL) λx=>?_
 .obtain⟨e,_,_,_,q1,rfl⟩:=hb.mp hx
  obtain⟨e2,_,_,q2,_,rfl⟩:=hb.mp hy;exact vae.mpr (.inl (show(g e).1<(g e2).1 by omega))
 .rw[List.mem_append,hb,hb,hb]
  constructor
  .rintro(⟨e,he,p1,p2,p3,p4⟩|⟨e,he,p1,p2,p3,p4⟩)
   .exact⟨e,he,p1,p2,(by omega),p4⟩
   .exact⟨e,he,p1,(by omega),p3,p4⟩
  .rintro⟨e,he,p1,p2,p3,p4⟩
   by_cases hm:(g e).1<=Uj
   .exact .inl ⟨e,he,p1,p2,hm,p4⟩
   .exact .inr ⟨e,he,p1,(by omega),p3,p4⟩
theorem vfx(s:Uo){lo Uj hi:Int}(h1:lo<=Uj+1)(h2:Uj<=hi):Wn s lo Uj++Wn s (Uj+1) hi=Wn s lo hi:=by
 unfold Wn;split
 .exact vfl (jhr s.vs.length) h1 h2
 .rfl
theorem vfH(s:Uo)(z:ByteArray)(lo hi:Int)(tb:Bool):(Yx s z lo hi tb).Pairwise VV/\∀x∈Yx s z lo hi tb,okW z lo hi x=true:=by
 unfold Yx;split
 .obtain⟨h1,h2⟩:=vcL (z:=z) (lo:=lo) (hi:=hi) (Uf s.vs) [] List.Pairwise.nil (λx hx=>by simp at hx) (jhr s.vs.length)
  exact⟨h1,λx hx=>by simpa using ((h2 x).mp hx).resolve_left (by simp) |>.2⟩
 .exact⟨List.Pairwise.nil,λx hx=>by simp at hx⟩
section
open Go.RowKit Go.Lib Go.Sort
theorem vhk(s:Uo)(v:Value)(w:World)(hv:Jd w v s)(ok:Zr s):C 9 #[v] w λe w'=>e=.returned (.bool (VI s))/\Bw w w':=by
 have h:=jh8 s v w hv ok;rw[jkt]at h;exact h
theorem vd5{B:Nat}{v:Value}(h:Jb w B v L):∃p c,v=.slice p L.length c/\Za w p 6 (L.map TD.cs):=by
 obtain⟨p,c,rfl⟩:=YW h;exact⟨p,c,rfl,(vah h (λ_=>rfl)).1⟩
theorem vfv(a0:Option Addr)(gQ Iu:Nat)(a1:Option Addr)(gV aC:Nat)(w:World)(h0:gQ<=1048576)(h1:gV<=1048576)(r0:Y2 w a0 gQ)(r1:Y2 w a1 gV)(cg:Zx w):
  C 3 #[.slice a0 gQ Iu,.slice a1 gV aC] w λe w'=>e=.returned (.bool true)/\Bw w w':=by
 have g0:¬(1048576:Int)<(gQ:Int):=(by omega);have g1:¬(1048576:Int)<(gV:Int):=(by omega);have hD:=vfj a0 gQ Iu w r0 h0;clear r0;delta C;go_in;go_wp2_with fail;refine hD.mono ?_;rintro q w1 Du;obtain⟨D,b1,b2,b3,b4,b5,b6,b8,b9,d1,d2,d3,d4,d5,d6,d8,d9,lo,hi,rfl,Fq,cG,jg,P5,RC⟩:=Du.ex;have B1:=Du.TQ;have y2:=TK w1 (.cells (stA D b1 b2 b3 b4 b5 b6 b8 b9 d1 d2 d3 d4 d5 d6 d8 d9).toArray 31);have A2:=Zh.new w1 (stA D b1 b2 b3 b4 b5 b6 b8 b9 d1 d2 d3 d4 d5 d6 d8 d9) 31;have B2:=TJ B1 y2;have S2:=Fq.below y2;obtain⟨w2,gH⟩:=TY (w1.alloc (.cells (stA D b1 b2 b3 b4 b5 b6 b8 b9 d1 d2 d3 d4 d5 d6 d8 d9).toArray 31));obtain⟨g5,xX⟩:=TY w1.heap.size;rw[gH]at A2 B2 S2;rw[xX]at A2;have hF:=jww j29 D _ lo hi w2 (cg.of_below B2) S2 cG;obtain⟨x0,x1,x2,x3,x4,x5,x6,x7,x8,x9⟩:=A2.UA;clear hD Du B1 y2 Fq;go_wp2_with fail;clear gH xX;refine hF.mono ?_;rintro q w3 ⟨v3,rfl,dE,yf⟩;obtain⟨pl,cl,rfl,Q3⟩:=vbM dE;have B3:=TJ B2 yf;have A3:=A2.below yf;have S3:=S2.below yf;have HL:=Us (j2p D lo hi);clear x0 x1 x2 x3 x4 x5 x6 x7 x8 x9 A2 S2 B2 hF dE yf;generalize Lg:(Wn D lo hi).length=nl at *
 -- region 5
 have cr:nl<=1048576:=by have:=HL.out;have:=cG.vl;omega
 have A4:=A3.below (UF w3);obtain⟨x0,x1,x2,x3,x4,x5,x6,x7,x8,x9⟩:=A4.UA;have hq1:=jxe D _ lo hi w3.drew (S3.below (UF w3)) cG;have yM:=λW (h:Bw w3 W)=>jwv D _ W (cg.of_below (TJ B3 h)) (S3.below h) cG
 have yO:=λW (h:Bw w3 W)=>vhk D _ W (S3.below h) cG
 generalize VI D=tb at yM yO;go_upto_region 5 with fail
 go_cut [48]from 35 to 48 (λuy wx=>uy=.bool false/\Hid (Bw w3 wx))
 case first=>
  go_wp2_with fail;go_region_held3 (λw'=>w'.cell? (O g5 0)=some (J D.tx)/\w'.cell? (O g5 1)=some (.slice b1 D.Tz.Tw.length d1)/\w'.cell? (O g5 2)=some (.slice b2 D.Tz.TC.length d2)/\w'.cell? (O g5 3)=some (.slice b3 D.Tz.TG.length d3)/\w'.cell? (O g5 4)=some (.slice b4 D.TE.Tw.length d4)/\w'.cell? (O g5 5)=some (.slice b5 D.TE.TC.length d5)/\w'.cell? (O g5 6)=some (.slice b6 D.TE.TG.length d6)/\w'.cell? (O g5 7)=some (J D.cur)/\w'.cell? (O g5 8)=some (.slice b8 D.vs.length d8)/\w'.cell? (O g5 9)=some (.slice b9 D.ix.length d9)) (go_keep) ((first|(go_at_call 7;refine hq1.mono ?_;rintro q w4 ⟨v4,rfl,dX,M5⟩;obtain⟨p4,c4,rfl,Q4⟩:=vbM dX;rw[Lg];have B4:Bw w3 w4:=(UF w3).trans M5;obtain⟨y0,y1,y2,y3,y4,y5,y6,y7,y8,y9⟩:=(A3.below B4).UA)|(go_at_call 6;refine(vdY (Wn D lo hi) pl p4 nl cl c4 _ (Q3.below B4) Q4 Lg cr).mono ?_;rintro q w5 ⟨rfl,Ma⟩;have B5:=TJ B4 Ma;obtain⟨z0,z1,z2,z3,z4,z5,z6,z7,z8,z9⟩:=(A3.below B5).UA)|(go_at_call 8;refine(yM _ B5).mono ?_;rintro q w6 ⟨rfl,C7⟩;have B6:=TJ B5 C7;obtain⟨u0,u1,u2,u3,u4,u5,u6,u7,u8,u9⟩:=(A3.below B6).UA)|(go_at_call 9;refine(yO _ B5).mono ?_;rintro q w6 ⟨rfl,C7⟩;have B6:=TJ B5 C7;obtain⟨u0,u1,u2,u3,u4,u5,u6,u7,u8,u9⟩:=(A3.below B6).UA)|(go_at_call 8;refine(yM _ B6).mono ?_;rintro q w7 ⟨rfl,Cf⟩;have B7:=TJ B6 Cf;obtain⟨v0,v1,v2,v3,v4,v5,v6,v7,v8,v9⟩:=(A3.below B7).UA)|(go_at_call 9;refine(yO _ B6).mono ?_;rintro q w7 ⟨rfl,Cf⟩;have B7:=TJ B6 Cf;obtain⟨v0,v1,v2,v3,v4,v5,v6,v7,v8,v9⟩:=(A3.below B7).UA)))
  all_goals
   have HB:=Us B7;go_wp2;go_meet;exact⟨(by simp),HB⟩
 case rest=>
 obtain⟨rfl,Gl⟩:=hcut;obtain⟨w7,yk⟩:=UL wc;subst yk;have B7:=Gl.out;have BW:=TJ B3 B7;have A7:=A3.below B7;have S7:=S3.below B7;have Q7:=Q3.below B7;have rN:=vf4 a1 gV aC w7 (r1.grown BW) h1;clear x0 x1 x2 x3 x4 x5 x6 x7 x8 x9 A4 hq1 yM yO Gl A3 S3 Q3 B3 B7;go_wp2_with fail;refine rN.mono ?_;rintro q w8 ⟨k,rfl,k0,k4,vh⟩;have xP:=TJ BW vh;have A8:=A7.below vh;have S8:=S7.below vh;have Q8:=Q7.below vh;obtain⟨dd,MT⟩:=TY ((hi-lo) / 4);have Rx:0<=dd/\4*dd<=hi-lo:=(by omega);obtain⟨ee,Rz⟩:=TY (dd*k);have uR:0<=ee/\ee<=hi-lo:=by
  have:k=0\/k=1\/k=2\/k=3\/k=4:=(by omega);rcases this with rfl|rfl|rfl|rfl|rfl<;>omega
 have q1:IntKind.i64.wrap (hi-lo)=hi-lo:=by rw[IntKind.wrap_i64];omega
 have q2:(hi-lo).tdiv 4=dd:=by rw[Int.tdiv_eq_ediv_of_nonneg (by omega)];exact MT
 have q3:IntKind.i64.wrap dd=dd:=by rw[IntKind.wrap_i64];omega
 have q4:IntKind.i64.wrap ee=ee:=by rw[IntKind.wrap_i64];omega
 obtain⟨Uj,wZ⟩:=TY (lo+ee);have q5:IntKind.i64.wrap Uj=Uj:=by rw[IntKind.wrap_i64];omega
 have q6:IntKind.i64.wrap (Uj+1)=Uj+1:=by rw[IntKind.wrap_i64];omega
 have oR:=Us (vfx D (lo:=lo) (Uj:=Uj) (hi:=hi) (by omega) (by omega));have Gu:=Us (j2p D lo Uj);have js:=Us (j2p D (Uj+1) hi);clear rN A7 S7 Q7 BW vh;have HA:Hid (∀W,Bw w8 W->W.cell? (O g5 0)=some (J D.tx)/\W.cell? (O g5 1)=some (.slice b1 D.Tz.Tw.length d1)/\W.cell? (O g5 2)=some (.slice b2 D.Tz.TC.length d2)/\W.cell? (O g5 3)=some (.slice b3 D.Tz.TG.length d3)/\W.cell? (O g5 4)=some (.slice b4 D.TE.Tw.length d4)/\W.cell? (O g5 5)=some (.slice b5 D.TE.TC.length d5)/\W.cell? (O g5 6)=some (.slice b6 D.TE.TG.length d6)/\W.cell? (O g5 7)=some (J D.cur)/\W.cell? (O g5 8)=some (.slice b8 D.vs.length d8)/\W.cell? (O g5 9)=some (.slice b9 D.ix.length d9)):=λW hb=>(A8.below hb).UA
 have Bk:Hid (∀W,Bw w8 W->C 5 #[.agg (stA D b1 b2 b3 b4 b5 b6 b8 b9 d1 d2 d3 d4 d5 d6 d8 d9).toArray,J lo,J Uj] W λe w'=>∃x,e=.returned x/\Zb w' W.heap.size x (Wn D lo Uj)/\Bw W w'):=λW hb=>jww j29 D _ lo Uj W (cg.of_below (TJ xP hb)) (S8.below hb) cG
 have iq:Hid (∀W,Bw w8 W->C 5 #[.agg (stA D b1 b2 b3 b4 b5 b6 b8 b9 d1 d2 d3 d4 d5 d6 d8 d9).toArray,J (Uj+1),J hi] W λe w'=>∃x,e=.returned x/\Zb w' W.heap.size x (Wn D (Uj+1) hi)/\Bw W w'):=λW hb=>jww j29 D _ (Uj+1) hi W (cg.of_below (TJ xP hb)) (S8.below hb) cG
 go_upto_region 8 with fail
 go_cut [10]from 58 to 69 (λmY wx=>∃p c,mY=.slice p nl c/\Hid (Za wx p 2 ((Wn D lo hi).map TZ.cs)/\Bw w8 wx))
 case first=>
  have vd:(Wn D lo Uj).length<=1048576:=by have:=Gu.out;have:=cG.vl;omega
  have fG:(Wn D lo Uj).length+(Wn D (Uj+1) hi).length<=1048576:=by
   rw[<- Vq,oR.out,Lg];exact cr
  refine wp_region_noPanic ?_;refine wp_region_held_drew (S:=λw'=>w'.cell? (O g5 0)=some (J D.tx)/\w'.cell? (O g5 1)=some (.slice b1 D.Tz.Tw.length d1)/\w'.cell? (O g5 2)=some (.slice b2 D.Tz.TC.length d2)/\w'.cell? (O g5 3)=some (.slice b3 D.Tz.TG.length d3)/\w'.cell? (O g5 4)=some (.slice b4 D.TE.Tw.length d4)/\w'.cell? (O g5 5)=some (.slice b5 D.TE.TC.length d5)/\w'.cell? (O g5 6)=some (.slice b6 D.TE.TG.length d6)/\w'.cell? (O g5 7)=some (J D.cur)/\w'.cell? (O g5 8)=some (.slice b8 D.vs.length d8)/\w'.cell? (O g5 9)=some (.slice b9 D.ix.length d9)) (by kernel_rfl) (HA.out _ (UF w8)) (λcZ=>?_);have h:FP w8 w8.drew (Wn D lo Uj) (Wn D (Uj+1) hi) none none none none:=⟨UF w8,λg e=>(by cases e),λg e=>(by cases e),λg e=>(by cases e),λg e=>(by cases e)⟩;generalize w8.drew=wB at *;refine wpAnyH_take (i:=1) (v:=?v0) rfl (by kernel_rfl) (by kernel_rfl) (by kernel_rfl) (λ_ _ _ h=>h) (Or.inl ⟨(by kernel_rfl),?y0⟩) cZ ?z0
  case y0=>(intro wq dA;(try dsimp only at dA);go_simp;try with_reducible rfl)
  try simp only[Act.put,qq1,qq2,qq3]
  refine wpAnyH_take (i:=2) (v:=?v1) rfl (by kernel_rfl) (by kernel_rfl) (by kernel_rfl) (λ_ _ _ h=>h) (Or.inl ⟨(by kernel_rfl),?y1⟩) cZ ?z1
  case y1=>(intro wq dA;(try dsimp only at dA);go_simp;try with_reducible rfl)
  try simp only[Act.put,qq1,qq2,qq3]
  refine wpAnyH_take (i:=3) (v:=?v2) rfl (by kernel_rfl) (by kernel_rfl) (by kernel_rfl) (λ_ _ _ h=>h) (Or.inl ⟨(by kernel_rfl),?y2⟩) cZ ?z2
  case y2=>(intro wq dA;(try dsimp only at dA);go_simp;try with_reducible rfl)
  try simp only[Act.put,qq1,qq2,qq3]
  refine wpAnyH_take (i:=6) (v:=?v3) rfl (by kernel_rfl) (by kernel_rfl) (by kernel_rfl) (λ_ _ _ h=>h) (Or.inl ⟨(by kernel_rfl),?y3⟩) cZ ?z3
  case y3=>(intro wq dA;(try dsimp only at dA);go_simp;try with_reducible rfl)
  try simp only[Act.put,qq1,qq2,qq3]
  refine wpAnyH_take (i:=7) (v:=?v4) rfl (by kernel_rfl) (by kernel_rfl) (by kernel_rfl) (λ_ _ _ h=>h) (Or.inl ⟨(by kernel_rfl),?y4⟩) cZ ?z4
  case y4=>(intro wq dA;(try dsimp only at dA);go_simp;try with_reducible rfl)
  try simp only[Act.put,qq1,qq2,qq3]
  refine wpAnyH_take (i:=8) (v:=?v5) rfl (by kernel_rfl) (by kernel_rfl) (by kernel_rfl) (λ_ _ _ h=>h) (Or.inl ⟨(by kernel_rfl),?y5⟩) cZ ?z5
  case y5=>(intro wq dA;(try dsimp only at dA);go_simp;try with_reducible rfl)
  try simp only[Act.put,qq1,qq2,qq3]
  refine wpAnyH_take (i:=9) (v:=?v6) rfl (by kernel_rfl) (by kernel_rfl) (by kernel_rfl) (λ_ _ _ h=>h) (Or.inl ⟨(by kernel_rfl),?y6⟩) cZ ?z6
  case y6=>(intro wq dA;(try dsimp only at dA);go_simp;try with_reducible rfl)
  try simp only[Act.put,qq1,qq2,qq3]
  refine vaq 0 4 (by kernel_rfl) rfl rfl (λK hK=>?q0) (λK hK=>?q1)
  case' q0=>
   go_simp;obtain⟨Mv,h,hq⟩:∃g,FP w8 (wB.alloc (.cells #[] 56)) (Wn D lo Uj) (Wn D (Uj+1) hi) (some g) none none none/\wB.heap.size=g:=⟨_,h.build,rfl⟩;refine hK.out _ _ (HA.out _ h.TQ) (λcZ=>?_)
   try simp only[Act.put,qq1,qq2,qq3]
   clear hK K;rw[hq];clear hq;generalize wB.alloc (.cells #[] 56)=wB at *;refine Xx 4 (by kernel_rfl) rfl (λK hK=>?_);go_simp;refine(Bk.out _ h.TQ).mono ?_;rintro q w9 ⟨QQ,rfl,eB,qS⟩;replace h:=h.vdq eB qS;clear eB qS;go_wp2_with fail;refine hK.out _ _ (HA.out _ h.TQ) (λcZ=>?_)
   try simp only[Act.put,qq1,qq2,qq3]
   clear hK K;generalize w9=wB at *
  case' q1=>
   go_simp;refine(Bk.out _ h.TQ).mono ?_;rintro q w9 ⟨QQ,rfl,eB,qS⟩;replace h:=h.vdq eB qS;clear eB qS;go_wp2_with fail;refine hK.out _ _ (HA.out _ h.TQ) (λcZ=>?_)
   try simp only[Act.put,qq1,qq2,qq3]
   clear hK K;generalize w9=wB at *;refine Xx 0 (by kernel_rfl) rfl (λK hK=>?_);go_simp;obtain⟨Mv,h,hq⟩:∃g,FP w8 (wB.alloc (.cells #[] 56)) (Wn D lo Uj) (Wn D (Uj+1) hi) (some g) (some _) none none/\wB.heap.size=g:=⟨_,h.build,rfl⟩;refine hK.out _ _ (HA.out _ h.TQ) (λcZ=>?_)
   try simp only[Act.put,qq1,qq2,qq3]
   clear hK K;rw[hq];clear hq;generalize wB.alloc (.cells #[] 56)=wB at *
  all_goals
   refine Xx 5 (by kernel_rfl) rfl (λK hK=>?_);refine h.app1 vd (by rfl) (by rfl) (by rfl) (by rfl) ?_;clear h;intro So wB h;refine hK.out _ _ (HA.out _ h.TQ) (λcZ=>?_)
   try simp only[Act.put,qq1,qq2,qq3]
   clear hK K;refine Xx 10 (by kernel_rfl) rfl (λK hK=>?_);go_simp;refine(iq.out _ h.TQ).mono ?_;rintro q w9 ⟨Sp,rfl,eB,qS⟩;replace h:=h.vfa eB qS;clear eB qS;go_wp2_with fail;refine hK.out _ _ (HA.out _ h.TQ) (λcZ=>?_)
   try simp only[Act.put,qq1,qq2,qq3]
   clear hK K;refine Xx 11 (by kernel_rfl) rfl (λK hK=>?_);refine h.ve3 fG (by rfl) (by rfl) (by rfl) (by rfl) ?_;clear h;intro P3 Mn wB sC sg;rw[oR.out]at sC;rw[oR.out,Lg];refine hK.out _ _ (HA.out _ sg) (λcZ=>?_)
   try simp only[Act.put,qq1,qq2,qq3]
   clear hK K;refine wpAnyH_take (i:=12) (v:=?_) rfl (by kernel_rfl) (by kernel_rfl) (by kernel_rfl) (λ_ _ _ h=>h) (Or.inl ⟨(by kernel_rfl),?_⟩) cZ ?_
   rotate_left
   focus (intro wq dA;(try dsimp only at dA);go_simp;try with_reducible rfl)
   try simp only[Act.put,Act.eval,List.getElem_toArray,List.getElem_cons_succ,List.getElem_cons_zero,qq1,qq2,qq3]
   refine wpAnyH_done (by kernel_rfl) ?_ _;refine NoPanic.normal ?_;have HF:=Us (And.intro sC sg);clear cZ sC sg;go_wp2;go_meet;exact⟨P3,Mn,(by kernel_rfl),HF⟩
 case rest=>
 obtain⟨p10,Mh,rfl,HF⟩:=hcut;obtain⟨w9,EI⟩:=UL wc;subst EI;have B9:=HF.out.2;have AZ:=TJ xP B9;have Q9:=Q8.below B9;have P9:=HF.out.1;have Ib:=vfk a1 gV aC w9 (r1.grown AZ) h1;clear HF HA Bk iq A8 S8 Q8 xP B9 oR Gu js q1 q2 q3 q4 q5 q6;go_wp2_with fail;refine Ib.mono ?_;rintro q jC rW;obtain⟨D2,e1,e2,e3,e4,e5,e6,e8,e9,k1,k2,k3,k4,k5,k6,k8,k9,z,uh,FY,rfl,vR,kS,hz⟩:=rW.ex;have uZ:=rW.TQ;have y11:=TK jC (.cells (stA D2 e1 e2 e3 e4 e5 e6 e8 e9 k1 k2 k3 k4 k5 k6 k8 k9).toArray 31);have pH:=TJ uZ y11;have uj:=Zh.new jC (stA D2 e1 e2 e3 e4 e5 e6 e8 e9 k1 k2 k3 k4 k5 k6 k8 k9) 31;have tS:=vR.below y11;have BT:=Q9.below pH;have BS:=P9.below pH;have pq:=TJ AZ pH;obtain⟨Lp,xu⟩:=TY (jC.alloc (.cells (stA D2 e1 e2 e3 e4 e5 e6 e8 e9 k1 k2 k3 k4 k5 k6 k8 k9).toArray 31));obtain⟨I0,wu⟩:=TY jC.heap.size;rw[xu]at uj tS BT BS pq;rw[wu]at uj;have aF:z.size<=maxLen:=Nat.le_trans hz (by unfold maxLen;omega);have If:=vfR j29 D2 _ z uh FY Lp (cg.of_below pq) tS kS aF;obtain⟨x0,x1,x2,x3,x4,x5,x6,x7,x8,x9⟩:=uj.UA;clear Ib rW uZ y11 pH vR Q9 P9 AZ;go_wp2_with fail;clear xu wu;refine If.mono ?_;rintro q AV ⟨v12,rfl,vI,ms⟩;obtain⟨pm,cm,rfl,BQ⟩:=vd5 vI;have FB:=uj.below ms;have uT:=tS.below ms;have M3:=BT.below ms;have M0:=BS.below ms;have AY:=TJ pq ms;have Gr:=Us (vfH D2 z uh FY (VI D2));have D4:=vfI D2 z uh FY;have Ph:=λW (h:Bw AV W)=>vfK D2 _ z uh FY W (uT.below h) kS aF
 generalize Yx D2 z uh FY (VI D2)=FL at *;obtain⟨nm,Co⟩:=TY FL.length;have P9:nm<=1048576:=by have:=kS.vl;omega
 have xW:=Us Co;rw[Co];clear x0 x1 x2 x3 x4 x5 x6 x7 x8 x9 uj tS BT BS pq If vI ms uT Co D4;go_wp2;go_loopw [16] (λwj wr=>∃i:Nat,i<=nm/\wj=J i/\Bw AV wr) (λwj _=>nm-(intOf wj).toNat)
 .exact⟨0,(by omega),rfl,Ui _ _⟩
 ·
  obtain⟨wa,dS⟩:=UL wr;subst dS;obtain⟨i,MW,rfl,aK⟩:=hrel;by_cases hlt:i<nm
  case pos=>
   have NJ:(i:Int)<(nm:Int):=(by omega);have NI:(0:Int)<=(i:Int):=(by omega);obtain⟨x,hx⟩:∃v,FL[i]? =some v:=⟨_,Ug (by have:=xW.out;omega)⟩;obtain⟨bm,om,rfl,hc⟩:=(BQ.below aK).at (i:=i) (r:=x.cs) (by rw[Uv,hx];rfl);have hok:=Gr.out.2 x (UH hx);unfold okW at hok;simp only[UM,decide_eq_true_eq,beq_iff_eq]at hok;obtain⟨lz,f9,gH⟩:=hok;have lz:x.TH=z:=toList_inj lz;have c2:=hc 2 _ rfl;have c3:=hc 3 _ rfl;rw[lz]at c2;have n1:decide (x.Ty<uh)=false:=dfe (by omega);have n2:decide (FY<x.Ty)=false:=dfe (by omega);obtain⟨x1,x2,x3,x4,x5,x6⟩:=x;dsimp only at *;clear hc;by_cases hp:0<i
   case neg=>
    have jp:decide (0<i)=false:=dfe (by omega);have jp2:decide ((0:Int)<(i:Int))=false:=dfe (by omega);clear hx hp;go_wp2_with fail;go_quiet (fail);go_wp2;go_roundw
    .exact⟨i+1,(by omega),(by go_num),below_drewN aK _⟩
    .simp[intOf];omega
   case pos=>
    obtain⟨j,hj⟩:∃j,i=j+1:=⟨i-1,(by omega)⟩;obtain⟨y,hy⟩:∃v,FL[j]? =some v:=⟨_,Ug (by have:=xW.out;omega)⟩;have o6:y.Ty<=x4:=by
     rw[hj]at hx;obtain⟨l1,Ot⟩:=List.getElem?_eq_some_iff.1 hy;obtain⟨l2,Mq⟩:=List.getElem?_eq_some_iff.1 hx;have:=List.pairwise_iff_getElem.1 Gr.out.1 j (j+1) l1 l2 (by omega);rw[Ot,Mq]at this;rcases this with h|h
     .exact Int.le_of_lt h
     .exact Int.le_of_eq h.1
    obtain⟨Re,Si,sh,hd⟩:=(BQ.below aK).at (i:=j) (r:=y.cs) (by rw[Uv,hy];rfl);injection sh with sh
    injection sh with sh iI
    subst sh iI;have Rj:=hd 3 _ rfl;have n3:decide (x4<y.Ty)=false:=dfe (by omega);have qj:IntKind.i64.wrap ((i:Int)-1)=(j:Int):=by rw[IntKind.wrap_i64];omega
    have j0:(0:Int)<=(j:Int):=(by omega);have j1:(j:Int)<(nm:Int):=(by omega);have jp:decide (0<i)=true:=Uy (by omega);have jp2:decide ((0:Int)<(i:Int))=true:=Uy (by omega);obtain⟨y1,y2,y3,y4,y5,y6⟩:=y;dsimp only at *;clear hd hx hy hp hj o6;go_wp2_with fail;go_quiet (fail);go_wp2;go_roundw
    .exact⟨i+1,(by omega),(by go_num),below_drewN aK _⟩
    .simp[intOf];omega
  case neg=>
   have NJ:¬(i:Int)<(nm:Int):=(by omega);have Rc:=FB.below aK;go_wp2_with fail;refine(vdY (Wn D lo hi) p10 pl nl Mh cl _ (M0.below aK) (M3.below aK) Lg cr).mono ?_;rintro q Fw ⟨rfl,BX⟩;have rT:=TJ aK BX;obtain⟨x0,x1,x2,x3,x4,x5,x6,x7,x8,x9⟩:=(FB.below rT).UA;go_wp2_with fail;refine(Ph _ rT).mono ?_;rintro q Sv ⟨v15,rfl,Dt,BY⟩;have vB:=TJ rT BY;obtain⟨OV,Mk,rfl,LZ⟩:=vd5 Dt;rw[xW.out];go_wp2_with fail;refine(vf5 FL pm OV nm cm Mk _ (BQ.below vB) LZ xW.out P9).mono ?_;rintro q Sw ⟨rfl,C6⟩;have De:=TJ vB C6;have HZ:=Us (TJ AY De);go_wp2;go_ret;exact⟨rfl,HZ.out⟩
end
end Go.Proofs.YtmkjofknhdikpaaGreatDoor
namespace Go.Proofs.YtmkjofknhdikpaaGreatDoor.findL
open Go.RowKit
theorem walk(a0:Option Addr)(gQ Iu:Nat)(a1:Option Addr)(gV aC:Nat)(w:World)(r0:Y2 w a0 gQ)(r1:Y2 w a1 gV)(hT:U3 w)(gw:Mx w):
  C 3 #[.slice a0 gQ Iu,.slice a1 gV aC] w λe w'=>e=.returned (.bool true)/\Bw w w':=by
 by_cases h0:1048576<gQ
 .have g0:(1048576:Int)<(gQ:Int):=(by omega)
  clear h0 r0 r1;delta C;go_in;go_wp2;go_ret;exact⟨rfl,Ui _ _⟩
 by_cases h1:1048576<gV
 .have g0:¬(1048576:Int)<(gQ:Int):=(by omega)
  have g1:(1048576:Int)<(gV:Int):=(by omega);clear h0 h1 r0 r1;delta C;go_in;go_wp2;go_ret;exact⟨rfl,Ui _ _⟩
 exact vfv a0 gQ Iu a1 gV aC w (by omega) (by omega) r0 r1 ⟨hT,gw⟩
