import Derived.Test.YtbbgeelamjmgaaaGreatDoorSXd
import Derived.Test.YtbbgeelamjmgaaaGreatDoorTsTd
set_option maxRecDepth 100000
set_option maxHeartbeats 0
set_option linter.unusedSimpArgs false
open Go.RowKit
namespace Go.Proofs.YtbbgeelamjmgaaaGreatDoor
variable{oI w wr:World}{B ca cb cc cd ce cf g h i pn pw:Nat}{a b c d e f:Option Addr}{s:ZP}{vVV:List Value}{L:List Ze}{lv out:Value}{X:List ZY}
theorem jmj{S S2:Nat->Prop}{w1 w2:World}(h:Fr S w w1)(h2:Fr S2 w1 w2)(hs:∀b,b<w.heap.size->S2 b->S b):Fr S w w2:=
 ⟨h2.os.trans h.os,h2.tape.trans h.tape,h2.output.trans h.output,Nat.le_trans h.size h2.size,λb hb hn=>(h2.block b (Nat.lt_of_lt_of_le hb h.size) (λe=>hn (hs b hb e))).trans (h.block b hb hn)⟩
theorem jzt:∃i:TypeInfo,Tryz.prog.info? 9=some i/\i.zero=some (Rn)/\i.size=1/\i.bytes=16:=⟨_,rfl,rfl,rfl,rfl⟩
theorem jzs:∃i:TypeInfo,Tryz.prog.info? 160=some i/\i.zero=some (.agg #[nS,J 0])/\i.size=2/\i.bytes=32:=⟨_,rfl,rfl,rfl,rfl⟩
theorem jyl{n c:Nat}{ts:List MW}(h:w.ownsRow B 160 2 (so g n c) n (ts.map MW.cs).flatten){j:Nat}{t:MW}(hj:ts[j]? =some t)(hn:ts.length=n):w.cell? (O g (j*2))=some (U t.a t.n t.c)/\w.cell? (O g (j*2+1))=some (J t.code):=by
 have hl:=(List.getElem?_eq_some_iff.1 hj).1;have hr:(ts.map MW.cs)[j]? =some t.cs:=by rw[Z8,hj];rfl
 have h0:=ja3 jkr (i:=j) (j:=0) hr rfl;have h1:=ja3 jkr (i:=j) (j:=1) hr rfl;exact⟨by rw[h.cellAt (j*2) Q];exact h0,by rw[h.cellAt (j*2+1) Q];exact h1⟩
structure veI(w0 w wx:World)(B p:Nat)(r:ZW)(a b c:Option Addr)(ca cb cc:Nat)(zv tv:Value)(zs:List ByteArray)(ts:List MW)(z:ByteArray)(E:List Value)(n:Nat):Prop where
 ex:∃g1 aC,Zk wx B p r a b c ca cb cc (so g1 (n+1) aC) tv (zs++[z]) ts/\(zv.ownBlock=some g1\/w.heap.size<=g1)
 ev:Zh wx w.heap.size E
 fr:Fr (InC p zv tv) w wx
 ZB:Bw w0 wx
 lo:B<=wx.heap.size
structure vdQ(w wx:World)(B p:Nat)(r:ZW)(a b c:Option Addr)(ca cb cc:Nat)(zv tv:Value)(zs:List ByteArray)(z:ByteArray)(E:List Value)(j:Nat):Prop where
 ex:∃lL gt nt ct l8 kZ t,Zk wx B p r a b c ca cb cc lL (so gt nt ct) l8 kZ/\l8[j]? =some z/\kZ[j]? =some t/\kZ.length=nt/\l8.length=nt/\nt<=zs.length+1/\∀g,InC p lL (so gt nt ct) g->InC p zv tv g\/w.heap.size<=g
 ev:Zh wx w.heap.size E
 fr:Fr (InC p zv tv) w wx
structure EvR(e:Ze):Prop where
 YZ:e.YZ.size<=8000
 w1: -62135596800<=e.YV
 w2:e.YV<=253402300799
 g1:0<=e.Zz
 g2:e.Zz<=2
 f1:0<=e.Zu
 f2:e.Zu<=2
theorem jd3(w0:World)(B p:Nat)(r:ZW)(a b c:Option Addr)(ca cb cc:Nat)(zv tv:Value)(zs:List ByteArray)(ts:List MW)(ev:Ze)(w:World)(hv:Zd w0 (.agg #[U a r.Vv.length ca,U b r.YU.length cb,U c r.YW.length cc]) r)(ZB:Bw w0 w)(ag:w0.heap.size<=B)(eM:B<=w.heap.size)(ok:Jk r)(hr:ZZ r=true)(hA:Zk w B p r a b c ca cb cc zv tv zs ts)(hl:ts.length=zs.length)(hn:zs.length<=1000)(jb:EvR ev):
  C 72 #[.pointer (some (O p 0)),ev.v] w (vcs B p r a b c ca cb cc zv tv zs ev w):=by
 obtain⟨id,name,YZ,YV,Zz,Zu⟩:=ev;have⟨k1,k2,k3,k4,k5,k6,k7⟩:=jb;simp only[Ze.v]at *;obtain⟨pz,cz,rfl,vu⟩:=jkx hA.zo;obtain⟨pt,ct,rfl,kJ⟩:=jkx hA.vR;rw[hl]at kJ;have Gs:=hA.zo;have CA:=hA.vR;rw[hl]at CA hA ⊢;have⟨N,hN⟩:=ZL zs.length;rw[hN]at hl hn vu kJ Gs CA hA ⊢;have HN:=hid hN;have HL:=hid hl;clear hN hl;have b0:Bw w (w.alloc (G #[J id,I name,I YZ,J YV,J Zz,J Zu] 33)):=ZA _ _;have E0:Zh (w.alloc (G #[J id,I name,I YZ,J YV,J Zz,J Zu] 33)) w.heap.size [J id,I name,I YZ,J YV,J Zz,J Zu]:=Zh.new w [J id,I name,I YZ,J YV,J Zz,J Zu] 33;have eK:=hA.below b0;have vt:=jkq hA.typ;have HA:=hid hA;have HV:=hid hv;have sT:=hid ZB;have Es:=hid vu;have oR:=hid kJ;clear hA hv ZB vu kJ Gs CA;unfold C;go_in;go_wp2;have dP:(w.alloc (G #[J id,I name,I YZ,J YV,J Zz,J Zu] 33)).heap.size=w.heap.size+1:=M;generalize (w.alloc (G #[J id,I name,I YZ,J YV,J Zz,J Zu] 33))=wA at *;have xq:=hid dP;clear dP;go_loopw [6,7] (λs6 s7 wr=>∃i:Nat,i<=N/\s7=J i/\s6=J (jet zs YZ i)/\Bw wA wr) (λ_ s7 _=>N-(intOf s7).toNat)
 .exact⟨0,Q,rfl,rfl,ZU _ _⟩
 ·
  have⟨wa,dS⟩:=wL wr;subst dS;obtain⟨i,hi,rfl,rfl,aK⟩:=hrel;have fR:=eK.below aK;have Er:=E0.below aK;have p3:=fR.v.c 3 (u:=(U pz N cz)) rfl;have e2:=Er.c 2 (u:=I YZ) rfl;by_cases hlt:i<N
  .have i1:(i:Int)<(N:Int):=Q
   have i0:(0:Int)<=(i:Int):=Q;obtain⟨y,hy⟩:∃y,zs[i]? =some y:=⟨_,ZV (by have:=HN.out;omega)⟩;obtain⟨gz,rfl⟩:=Es.out Q;have CQ:=fR.zo;rw[HN.out]at CQ;have y0:wa.cell? (O gz i)=some (I y):=by rw[CQ.cellAt i Q,Z8,hy];rfl
   have xd:=hid aK;have HY:=hid hy;clear hy CQ fR Er aK eK E0;cases hb:(y.toList==YZ.toList)
   .have HK:Hid (jet zs YZ (i+1)=jet zs YZ i):=jr0 HY.out hb
    generalize jet zs YZ i=k0 at *;go_wp2_with fail;go_quiet (fail);go_wp2;go_roundw
    .exact⟨i+1,Q,RP,by rw[HK.out],xd.out.trans (⟨rfl,rfl,rfl,ZD _,λ_ _=>rfl⟩)⟩
    .simp[intOf];omega
   .have HK:Hid (jet zs YZ (i+1)=i):=job HY.out hb
    generalize jet zs YZ i=k0 at *;go_wp2_with fail;go_quiet (fail);go_wp2;go_roundw
    .exact⟨i+1,Q,RP,by rw[HK.out],xd.out.trans (⟨rfl,rfl,rfl,ZD _,λ_ _=>rfl⟩)⟩
    .simp[intOf];omega
  .obtain rfl:i=N:=Q
   have f9:Bw w wa:=b0.trans (aK.mono (by have:=xq.out;omega));have th:=hid f9;have oP:=hid fR;have yF:=hid Er;have Gg:p<wa.heap.size:=jkq fR.typ;have uS:w.heap.size<wa.heap.size:=ZI e2;have Jv:B<=wa.heap.size:=Nat.le_trans eM f9.size;have Pe:=vt;have lc:=hid e2;clear f9 aK fR Er eK E0 b0 vt e2;go_upto_if 30 with fail
   go_cut [6]from 29 to 62 (λs6 wx=>∃j:Nat,s6=J j/\vdQ w wx B p r a b c ca cb cc (U pz i cz) (U pt i ct) zs YZ [J id,I name,I YZ,J YV,J Zz,J Zu] j)
   case first=>
    rcases jl9 zs YZ i with h|⟨j,h,hj⟩
    .rw[h]
     clear h;have⟨is,his,dP,bU,dR⟩:=jzt;have⟨it,sD,KH,KI,eH⟩:=jzs;have ba:∀o,Bw wa (wa.drew.alloc o):=λo=>(show Bw wa wa.drew from rW wa).alloc (ZD _) o
     have FK:wa.ownsRow B 9 1 (U pz i cz) i (zs.map Value.string):=by have:=oP.out.zo;rw[HN.out]at this;exact this
     have GK:=oP.out.v.f 3 (u:=U pz i cz) rfl;have e2:=lc.out;have az:some p≠(U pz i cz).ownBlock:=jgv oP.out.zo oP.out.typ RN;have ov:some w.heap.size≠(U pz i cz).ownBlock:=λe=>by have:=(World.ownsRow.lt HA.out.zo _ e.symm).2;omega
     go_upto_region 9 with fail
     go_cut []from 36 to 46 (λwx=>veI w0 w wx B p r a b c ca cb cc (U pz i cz) (U pt i ct) zs ts YZ [J id,I name,I YZ,J YV,J Zz,J Zu] i)
     case first=>
      go_region_law (refine step_append_lies _ Si (.tmp 40) (.tmp 43) 92 Si B 9 is (Rn) 1 16 Tryz.underlying92 his dP bU dR rfl Q (U pz i cz) i (zs.map Value.string) Si (nO (w:=wa.drew) FK _) (O wa.heap.size 0) 1 1 [I YZ] Si rfl (Ka _ _ _) (by intro u hu;simp at hu;subst hu;rfl) Q (by unfold maxLen;omega) Q RO _ rfl ?_;intro g1 aC w2 av af bE hlt1;have r1:=af.cell (a:=(O p 3)) (YR (ba _) p3) az;have r2:=(af.frozen_far (O p 3) RO az).trans (((Z4 (ba _)).2 _ _ Gg).trans GK))
      all_goals
       have h3:=(oP.out.below (ba _)).vh5 (by rw[HL.out,HN.out]) af (by rw[HN.out];exact av);have f1:Fr (InC p (U pz i cz) (U pt i ct)) w (wa.drew.alloc (G #[I YZ] 9)):=Fr.of_below (th.out.trans ((ba _).mono th.out.size));have f2:=jmj f1 h3.2 (λ_ _ h=>h);have HZ:Hid (veI w0 w (w2.setCell (O p 3) (so g1 (i+1) aC)) B p r a b c ca cb cc (U pz i cz) (U pt i ct) zs ts YZ [J id,I name,I YZ,J YV,J Zz,J Zu] i):=by
        refine⟨⟨g1,aC,h3.1,bE.imp_right λe=>?_⟩,?_,f2,?_,?_⟩
        .rw[e];exact Nat.le_trans th.out.size (ba (G #[I YZ] 9)).size
        .exact((yF.out.below (ba _)).fr (Fr.vaT af) (λe=>ov e.symm)).other Q _
        .exact sT.out.trans (f2.below (λg hg=>Nat.le_trans ag (HA.out.low hg)) sT.out.size)
        .exact Nat.le_trans eM f2.size
       clear h3 f1 f2 av af bE hlt1 r1 r2;go_wp2;go_meet;exact HZ.out
     case rest=>
      have⟨w3,gm⟩:=wL wc;subst gm;have⟨g1,aC,kg,cQ⟩:=hcut.ex;have E3:=hcut.ev;have xe:=hid hcut.fr;have ar:=hcut.ZB;have jg:=hcut.lo;clear hcut;have z0:=kg.v.c 0 (u:=U a r.Vv.length ca) rfl;have z1:=kg.v.c 1 (u:=U b r.YU.length cb) rfl;have z2:=kg.v.c 2 (u:=U c r.YW.length cc) rfl;have z4:=kg.v.c 4 (u:=U pt i ct) rfl;have NE:=kg.v.f 4 (u:=U pt i ct) rfl;have y2:=E3.c 2 (u:=I YZ) rfl;have hC:=jsy vgq r (.agg #[U a r.Vv.length ca,U b r.YU.length cb,U c r.YW.length cc]) YZ w3.drew (HV.out.below (ar.trans ((rW w3).mono ar.size))) ok.sm ok.on k1 hr;have Hd:=hid kg;have yD:Hid (Zh w3 w.heap.size [J id,I name,I YZ,J YV,J Zz,J Zu]):=E3;have Eg:=hid cQ;have eD:w3.ownsRow B 160 2 (U pt i ct) i (ts.map MW.cs).flatten:=by have:=kg.vR;rw[HL.out]at this;exact this
      have mG:some p≠(U pt i ct).ownBlock:=jgv kg.vR kg.typ RN;have Gf:p<w3.heap.size:=jkq kg.typ;have d0:w3.drew.cell? (O p 0)=some (U a r.Vv.length ca):=z0;have d1:w3.drew.cell? (O p 1)=some (U b r.YU.length cb):=z1;have d2:w3.drew.cell? (O p 2)=some (U c r.YW.length cc):=z2;have d4:w3.drew.cell? (O p 4)=some (U pt i ct):=z4;have dy:w3.drew.cell? (O w.heap.size 2)=some (I YZ):=y2;have Gh:p≠w.heap.size:=Q;clear kg E3 cQ ar p3 e2 GK FK ba az ov;go_wp2_with fail;go_region_law (first|(go_simp;go_at_call 110;refine hC.mono ?_;rintro q w7 ff;have⟨v7,yg,cj,ay⟩:=ff.ex;obtain⟨a7,m7,d7,rfl⟩:=Dt cj;have⟨k9,G1⟩:=ZL ((uC r YZ).1);rw[G1]at yg;subst yg;clear ff;have m0:=YR ay d0;have m1:=YR ay d1;have m2:=YR ay d2;have m4:=YR ay d4;have my:=YR ay dy;have Lh:=((Z4 ay).2 _ _ Gf).trans NE;have mj:=uZ eD (show Bw w3 w7 from(rW w3).trans (ay.mono (ZD _)));have f8:w3.heap.size<=w7.heap.size:=ay.size;have Cu:p<w7.heap.size:=Nat.lt_of_lt_of_le Gf f8;have nM:=ZA w7 (G #[U a7 m7 d7,J k9] 160);have PB:=YR nM m4)|(refine step_append_lies _ Si (.tmp 51) (.tmp 59) 125 Si B 160 it (.agg #[nS,J 0]) 2 32 Tryz.underlying125 sD KH KI eH rfl Q (U pt i ct) i (ts.map MW.cs).flatten Si (nO (w:=w7) mj _) (O w7.heap.size 0) 1 1 [U a7 m7 d7,J k9] Si rfl (Ka _ _ _) (by intro u hu;simp at hu;rcases hu with rfl|rfl<;>rfl) Q (by unfold maxLen;omega) Q RO _ rfl ?_;intro g2 bL w8 aw af bE hlt2;have s1:=af.cell (a:=(O p 4)) (YR nM m4) mG;have s2:=(af.frozen_far (O p 4) RO mG).trans (((Z4 nM).2 _ _ Cu).trans Lh)))
      all_goals
       have yk:Bw w3 w7:=(rW w3).trans (ay.mono (ZD _));have EW:=(Hd.out.below yk).below nM;have F8:Jg w7 ⟨a7,m7,d7,k9⟩ (uC r YZ):=by have h:=ju2 (x:=uC r YZ) cj;rw[G1]at h;exact h
       have h3:=EW.vh4 (t:=⟨a7,m7,d7,k9⟩) (by rw[HL.out,HN.out]) (F8.below nM) af (by rw[HL.out];exact aw)
       have f3:=jmj (jmj xe.out (Fr.of_below (S:=λ_=>False) (Zp yk nM)) (λ_ _ h=>h.elim)) h3.2 (λg hg h=>by
        rcases h with h|h|h
        .exact .inl h
        .injection h with h
         have h:g1=g:=h;subst h;rcases Eg.out with h2|h2
         .exact .inr (.inl h2)
         .omega
        .exact .inr (.inr h))
       have HD:Hid (vdQ w (w8.setCell (O p 4) (so g2 (i+1) bL)) B p r a b c ca cb cc (U pz i cz) (U pt i ct) zs YZ [J id,I name,I YZ,J YV,J Zz,J Zu] i):=by
        refine⟨⟨so g1 (i+1) aC,g2,i+1,bL,zs++[YZ],ts++[⟨a7,m7,d7,k9⟩],⟨a7,m7,d7,k9⟩,h3.1,?_,?_,by rw[FB,HL.out];rfl,by rw[FB,HN.out];rfl,by rw[HN.out];omega,λg hg=>?_⟩,?_,f3⟩
        .rw[List.getElem?_append_right (by rw[HN.out];omega),HN.out,Nat.sub_self];rfl
        .rw[List.getElem?_append_right (by rw[HL.out];omega),HL.out,Nat.sub_self];rfl
        .rcases hg with hg|hg|hg
         .exact .inl (.inl hg)
         .injection hg with hg
          have hg:g1=g:=hg;subst hg;exact Eg.out.imp (λh=>.inr (.inl h)) (λh=>h)
         .injection hg with hg
          have hg:g2=g:=hg;subst hg;refine bE.imp (λh=>.inr (.inr h)) (λh=>?_);rw[h];exact Nat.le_trans (Nat.le_trans xe.out.size f8) nM.size
        .refine Zh.other (Zh.fr ((yD.out.below yk).below nM) (Fr.vaT af) (λe=>?_)) Q _
         have:=(World.ownsRow.lt HA.out.vR _ e).2;omega
       clear h3 f3 EW F8 yk aw af bE hlt2 s1 s2 cj ay mj;go_wp2;go_meet;exact⟨i,rfl,HD.out⟩
    .rw[h]
     clear h;have Kc:j<i:=by have h1:=(List.getElem?_eq_some_iff.1 hj).1;have:=HN.out;omega
     obtain⟨t,sK⟩:∃t,ts[j]? =some t:=⟨_,ZV (by have:=HL.out;omega)⟩;obtain⟨gt,rfl⟩:=oR.out Q;have j2:¬(j:Int)<0:=Q;have HD:Hid (vdQ w wa B p r a b c ca cb cc (U pz i cz) (so gt i ct) zs YZ [J id,I name,I YZ,J YV,J Zz,J Zu] j):=⟨⟨_,gt,i,ct,zs,ts,t,oP.out,hj,sK,HL.out,HN.out,by have:=HN.out;omega,λg hg=>.inl hg⟩,yF.out,Fr.of_below th.out⟩;clear hj sK;go_wp2;go_meet;exact⟨j,rfl,HD.out⟩
   case rest=>
    obtain⟨j,rfl,hcut⟩:=hcut;have⟨wt,KX⟩:=wL wc;subst KX;have⟨lL,gt,nt,zf,l8,kZ,⟨ta,tn,tc,tk⟩,cY,hj,sK,fG,aF,gF,hin⟩:=hcut.ex;have Er:=hcut.ev;have yG:=hid hcut.fr;clear hcut;have Kc:j<nt:=by have h1:=(List.getElem?_eq_some_iff.1 hj).1;omega
    have CB:=cY.vR;rw[fG]at CB;have⟨r0,r1⟩:=jyl CB sK fG;dsimp only at r0 r1;have nJ:Hid (Jg wt ⟨ta,tn,tc,tk⟩ (uC r YZ)):=cY.tab j YZ _ hj sK;have q4:=cY.v.c 4 (u:=so gt nt zf) rfl;have e3:=Er.c 3 (u:=J YV) rfl;have e4:=Er.c 4 (u:=J Zz) rfl;have e5:=Er.c 5 (u:=J Zu) rfl;have j1:(j:Int)<(nt:Int):=Q;have j0:(0:Int)<=(j:Int):=Q;have td:Hid (∀w' n7 b7,Bw wt w'->vai r ⟨id,name,YZ,YV,Zz,Zu⟩=(n7,b7)->vcs B p r a b c ca cb cc (U pz i cz) (U pt i ct) zs ⟨id,name,YZ,YV,Zz,Zu⟩ w (V (.tuple #[J n7,.bool b7])) w'):=λw' n7 b7 hb hm=>by
     exact⟨by rw[hm],⟨lL,so gt nt zf,l8,kZ,cY.below hb,Q,Q,hin⟩,jmj yG.out (Fr.of_below (S:=λ_=>False) hb) (λ_ _ h=>h.elim)⟩
    clear cY Er CB hj sK hin fG aF gF p3 Gg uS oP yF th lc Es oR HA;by_cases hk:tk=0
    .subst hk
     have hd:(uC r YZ).1=0:=nJ.out.code.symm;have oz:=(jm1 hd).2.2.2.right;have HM:Hid (vai r ⟨id,name,YZ,YV,Zz,Zu⟩=((vbg (uC r YZ).2 YV Zz Zu).1,decide ((vbg (uC r YZ).2 YV Zz Zu).2=0))):=by
      simp only[Hid];unfold vai;rw[jrp hd,jri oz (jma k2 k3) (jma k4 k5) (jma k6 k7)]
     have fH:=nJ.out.n;have iQ:=nJ.out.seq;dsimp only at fH iQ;have⟨l,i9⟩:=ZL ((uC r YZ).2);rw[i9]at oz HM fH iQ;subst fH;clear i9 hd;have hR:=λW h=>jh6 l (.agg #[U ta l.length tc]) YV Zz Zu W h (j0x oz) k2 k3 k4 k5 k6 k7
     have bA:=rW wt;have bB:Bw wt (wt.alloc (G #[J 0,J 0] 163)).drew:=(ZA wt _).trans ((rW _).mono M);have TA:Zy wt.drew (.agg #[U ta l.length tc]) l:=⟨ta,tc,rfl,iQ.below bA⟩;have TB:Zy (wt.alloc (G #[J 0,J 0] 163)).drew (.agg #[U ta l.length tc]) l:=⟨ta,tc,rfl,iQ.below bB⟩;have⟨⟨n7,c7⟩,sG⟩:=ZL (vbg l YV Zz Zu);rw[sG]at hR HM;simp only[xW]at hR;clear sG iQ oz;have D8:=YR bA q4;have D9:=YR bB q4;have:=World.new_ne wt _ q4;have Db:=YR bA r0;have Dc:=YR bB r0;have:=World.new_ne wt _ r0;have zO:=YR bA e3;have zP:=YR bB e3;have:=World.new_ne wt _ e3;have zR:=YR bA e4;have zS:=YR bB e4;have:=World.new_ne wt _ e4;have zU:=YR bA e5;have zV:=YR bB e5;have:=World.new_ne wt _ e5;obtain⟨yt,yu,Af,Ag⟩:(λz:World=>z.cell? (O wt.heap.size 0)=some (J 0)/\z.cell? (O wt.heap.size 1)=some (J 0)/\z.frozen? (O wt.heap.size 0)=false/\z.frozen? (O wt.heap.size 1)=false) ((wt.alloc (G #[J 0,J 0] 163)).drew):=RQ;go_wp2_with fail;go_region_held3 (λw'=>w'.cell? (O p 4)=some (so gt (nt) zf)/\w'.cell? (O gt (j*2))=some (U ta l.length tc)/\w'.cell? (O w.heap.size 3)=some (J YV)/\w'.cell? (O w.heap.size 4)=some (J Zz)/\w'.cell? (O w.heap.size 5)=some (J Zu)) (go_keep) (first|(go_at_call 111;refine(hR _ TA).mono ?_;rintro q w7 ⟨rfl,ay⟩;have dz:=Zp bA ay;have D7:=YR ay D8;have Da:=YR ay Db;have zN:=YR ay zO;have zQ:=YR ay zR;have zT:=YR ay zU)|(go_at_call 111;refine(hR _ TB).mono ?_;rintro q w7 ⟨rfl,ay⟩;have dz:=Zp bB ay;have D7:=YR ay D9;have Da:=YR ay Dc;have zN:=YR ay zP;have zQ:=YR ay zS;have zT:=YR ay zV;have wI:=YR ay yt;have wK:=YR ay yu;have ka:=AZ ay yt Af;have kd:=AZ ay yu Ag))
     .skip
      have B9:Bw wt (w7.alloc (G #[J n7,J c7] 163)):=dz.alloc dz.size _;obtain⟨t0,t1⟩:(λz:World=>z.cell? (O w7.heap.size 0)=some (J n7)/\z.cell? (O w7.heap.size 1)=some (J c7)) (w7.alloc (G #[J n7,J c7] 163)):=RQ;have l9:=hid B9;clear B9 dz ay;clear hR TA TB D7 D8 D9 Da Db Dc zN zO zP zQ zR zS zT zU zV yt yu Af Ag bA bB;generalize (w7.alloc (G #[J n7,J c7] 163))=w9 at *;by_cases hc:c7=0
      .subst hc
       go_wp2_with fail;go_quiet (fail);go_wp2;go_ret2;exact td.out _ _ _ (l9.out.trans (⟨rfl,rfl,rfl,ZD _,λ_ _=>rfl⟩)) (by rw[HM.out];rfl)
      .have cU:(c7==0)=false:=by simp[hc]
       go_wp2_with fail;go_quiet (fail);go_wp2;go_ret2;exact td.out _ _ _ (l9.out.trans (⟨rfl,rfl,rfl,ZD _,λ_ _=>rfl⟩)) (by rw[HM.out,dfe hc])
     .skip
      have B9:Bw wt ((w7.setCell (O wt.heap.size 0) (J n7)).setCell (O wt.heap.size 1) (J c7)):=(dz.setCell (ZD _) _).setCell (ZD _) _;have⟨t0,t1⟩:=jav (v0:=J n7) (v1:=J c7) wI wK;have l9:=hid B9;clear B9 dz ay;clear hR TA TB D7 D8 D9 Da Db Dc zN zO zP zQ zR zS zT zU zV yt yu Af Ag bA bB wI wK ka kd;generalize ((w7.setCell (O wt.heap.size 0) (J n7)).setCell (O wt.heap.size 1) (J c7))=w9 at *;by_cases hc:c7=0
      .subst hc
       go_wp2_with fail;go_quiet (fail);go_wp2;go_ret2;exact td.out _ _ _ (l9.out.trans (⟨rfl,rfl,rfl,ZD _,λ_ _=>rfl⟩)) (by rw[HM.out];rfl)
      .have cU:(c7==0)=false:=by simp[hc]
       go_wp2_with fail;go_quiet (fail);go_wp2;go_ret2;exact td.out _ _ _ (l9.out.trans (⟨rfl,rfl,rfl,ZD _,λ_ _=>rfl⟩)) (by rw[HM.out,dfe hc])
    .have fy:(tk==0)=false:=by simp[hk]
     go_wp2;go_ret2;exact td.out _ _ _ (ZU _ _) (by unfold vai;rw[jv3 (by rw[<- nJ.out.code];exact hk)])
structure Jn(s:ZP)(w wr:World)(B pn pw h:Nat)(a b c d e f:Option Addr)(ca cb cc cd ce cf:Nat)(vVV:List Value)(L:List Ze)(lv:Value)(X:List ZY)(i:Nat)(out:Value):Prop where
 ex:∃nA nr nv oM nB nu ny oN,Zk wr B pn s.YT a b c ca cb cc nA nr nv oM/\oM.length=nv.length/\nv.length<=i/\Zk wr B pw s.YS d e f cd ce cf nB nu ny oN/\oN.length=ny.length/\ny.length<=i/\∀g,InC pn nA nr g->¬InC pw nB nu g
 own:∃g m k,out=so g m k/\Zb wr (h+1) out X/\X.length=m/\m<=k
 live:Jb wr (h+1) lv L
 sv:Zh wr h vVV
 ZB:Bw w wr
 lo:B<=wr.heap.size
theorem Jn.below{X2:List ZY}{am:Value}(hR:Jn s w wr B pn pw h a b c d e f ca cb cc cd ce cf vVV L lv X i out)(hb:Bw wr oI)(ho:∃g m k,am=so g m k/\Zb oI (h+1) am X2/\X2.length=m/\m<=k):Jn s w oI B pn pw h a b c d e f ca cb cc cd ce cf vVV L lv X2 i am:=by
 have⟨nA,nr,nv,oM,nB,nu,ny,oN,h1,h2,h3,h4,h5,h6,h7⟩:=hR.ex;exact⟨⟨nA,nr,nv,oM,nB,nu,ny,oN,h1.below hb,h2,h3,h4.below hb,h5,h6,h7⟩,ho,uZ hR.live hb,hR.sv.below hb,hR.ZB.trans (hb.mono hR.ZB.size),Nat.le_trans hR.lo hb.size⟩
theorem Jn.same(hR:Jn s w wr B pn pw h a b c d e f ca cb cc cd ce cf vVV L lv X i out)(hb:Bw wr oI):Jn s w oI B pn pw h a b c d e f ca cb cc cd ce cf vVV L lv X i out:=by
 have⟨g,m,k,h1,h2,h3⟩:=hR.own;exact hR.below hb ⟨g,m,k,h1,uZ h2 hb,h3⟩
theorem Jn.vgS(hR:Jn s w wr B pn pw h a b c d e f ca cb cc cd ce cf vVV L lv X i out)(hh:h<B)(gn:w.heap.size<=B)(ev:Ze)
  (hC:∀zv tv zs ts,Zk wr B pn s.YT a b c ca cb cc zv tv zs ts->ts.length=zs.length->zs.length<=i->C 72 #[.pointer (some (O pn 0)),ev.v] wr (vcs B pn s.YT a b c ca cb cc zv tv zs ev wr)):
  C 72 #[.pointer (some (O pn 0)),ev.v] wr λq w2=>q=V (.tuple #[J (vai s.YT ev).1,.bool (vai s.YT ev).2])/\Jn s w w2 B pn pw h a b c d e f ca cb cc cd ce cf vVV L lv X (i+1) out:=by
 have⟨nA,nr,nv,oM,nB,nu,ny,oN,h1,h2,h3,h4,h5,h6,h7⟩:=hR.ex;refine(hC nA nr nv oM h1 h2 h3).mono λq w2 hP=>⟨hP.ex,?_⟩
 have hf:=hP.fr;have⟨lL,SX,l8,kZ,k1,k2,k3,k4⟩:=hP.cache;have⟨g,m,k,o1,o2,o3⟩:=hR.own;have fv:∀g,(∃cs,wr.heap[g]? =some (G cs 195 (0,0)))->¬InC pn nA nr g:=λg hg=>h1.not hg RN RN RN
 have qq:=jcm o2 hf (λg hg=>h1.not (jby o2 hg) RN RN RN);have Dm:=jcm hR.live hf (λg hg=>h1.not (jby hR.live hg) RN RN RN);have SV:=hR.sv.fr hf (λe=>by have:=h1.low e;omega);have df:Bw w w2:=hR.ZB.trans (hf.below (λg hg=>Nat.le_trans gn (h1.low hg)) hR.ZB.size);have hO:=h4.fr hf (λg hg hx=>h7 g hx hg) fv;refine⟨⟨lL,SX,l8,kZ,nB,nu,ny,oN,k1,k2,Q,hO,h5,Q,λg hg hx=>?_⟩,⟨g,m,k,o1,qq,o3⟩,Dm,SV,df,Nat.le_trans hR.lo hf.size⟩;rcases k4 g hg with hg|hg
 .exact h7 g hg hx
 .have⟨t,ht,_⟩:=h4.kind hx
  have:=jkq ht;omega
theorem Jn.vgT(hR:Jn s w wr B pn pw h a b c d e f ca cb cc cd ce cf vVV L lv X i out)(hh:h<B)(gn:w.heap.size<=B)(ev:Ze)
  (hC:∀zv tv zs ts,Zk wr B pw s.YS d e f cd ce cf zv tv zs ts->ts.length=zs.length->zs.length<=i->C 72 #[.pointer (some (O pw 0)),ev.v] wr (vcs B pw s.YS d e f cd ce cf zv tv zs ev wr)):
  C 72 #[.pointer (some (O pw 0)),ev.v] wr λq w2=>q=V (.tuple #[J (vai s.YS ev).1,.bool (vai s.YS ev).2])/\Jn s w w2 B pn pw h a b c d e f ca cb cc cd ce cf vVV L lv X (i+1) out:=by
 have⟨nA,nr,nv,oM,nB,nu,ny,oN,h1,h2,h3,h4,h5,h6,h7⟩:=hR.ex;refine(hC nB nu ny oN h4 h5 h6).mono λq w2 hP=>⟨hP.ex,?_⟩
 have hf:=hP.fr;have⟨lL,SX,l8,kZ,k1,k2,k3,k4⟩:=hP.cache;have⟨g,m,k,o1,o2,o3⟩:=hR.own;have fv:∀g,(∃cs,wr.heap[g]? =some (G cs 195 (0,0)))->¬InC pw nB nu g:=λg hg=>h4.not hg RN RN RN
 have qq:=jcm o2 hf (λg hg=>h4.not (jby o2 hg) RN RN RN);have Dm:=jcm hR.live hf (λg hg=>h4.not (jby hR.live hg) RN RN RN);have SV:=hR.sv.fr hf (λe=>by have:=h4.low e;omega);have df:Bw w w2:=hR.ZB.trans (hf.below (λg hg=>Nat.le_trans gn (h4.low hg)) hR.ZB.size);have hO:=h1.fr hf (λg hg hx=>h7 g hg hx) fv;refine⟨⟨nA,nr,nv,oM,lL,SX,l8,kZ,hO,h2,Q,k1,k2,Q,λg hg hx=>?_⟩,⟨g,m,k,o1,qq,o3⟩,Dm,SV,df,Nat.le_trans hR.lo hf.size⟩;rcases k4 g hx with hx|hx
 .exact h7 g hg hx
 .have⟨t,ht,_⟩:=h1.kind hg
  have:=jkq ht;omega
theorem jrq{e:Ze}(h:s.cur=0\/e.id<s.cur):My s e=vai s.YT e:=if_pos h
theorem jzg{e:Ze}(h:¬(s.cur=0\/e.id<s.cur)):My s e=vai s.YS e:=if_neg h
theorem jwr{p:Nat}(h:InC p nS nS g):g=p:=by
 rcases h with h|h|h
 .exact h
 .cases h
 .cases h
abbrev stL(s:ZP)(a b c d e f va ia:Option Addr)(ca cb cc cd ce cf cv ci:Nat):List Value:=
 [J s.tx,U a s.YT.Vv.length ca,U b s.YT.YU.length cb,U c s.YT.YW.length cc,U d s.YS.Vv.length cd,U e s.YS.YU.length ce,U f s.YS.YW.length cf,J s.cur,U va s.vs.length cv,U ia s.ix.length ci]
theorem jsp(w:World)(L vMM:List Value):∃x,(w.alloc (G L.toArray 127)).alloc (G vMM.toArray 127)=x/\Bw w x/\Zh x w.heap.size L/\Zh x (w.heap.size+1) vMM/\(∃cs,x.heap[w.heap.size]? =some (G cs 127 (0,0)))/\(∃cs,x.heap[w.heap.size+1]? =some (G cs 127 (0,0)))/\x.heap.size=w.heap.size+1+1:=by
 have⟨e,z,b⟩:=j06 w (G L.toArray 127) (G vMM.toArray 127);have h:=Zh.new (w.alloc (G L.toArray 127)) vMM 127;have g:=heap_alloc_new (w.alloc (G L.toArray 127)) (G vMM.toArray 127);have bW:Below _ _ ((w.alloc (G L.toArray 127)).alloc (G vMM.toArray 127)):=ZA _ _;rw[e]at h g;exact⟨_,rfl,b,(Zh.new w L _).below bW,h,⟨_,(bW.block _ M).trans (heap_alloc_new w _)⟩,⟨_,g⟩,z⟩
theorem jh5(s:ZP)(v:Value)(w:World)(hv:Jd w v s)(ok:Zr s)(oG:ZZ s.YT=true)(dC:ZZ s.YS=true)(CG:s.vs.length<=1000)(hL:(ZJ s.vs).length<=1000)(nV:∀e∈ZJ s.vs,EvR e):
  C 34 #[v] w λq w'=>∃x,q=V x/\Zb w' w.heap.size x (BS (My s) (ZJ s.vs))/\Bw w w':=by
 obtain⟨a,b,c,d,e,f,va,ia,ca,cb,cc,cd,ce,cf,cv,ci,rfl,hN,hW,hV,hX,_,_⟩:=hv.form;have⟨wA,cK,b1,A1,O1,z1⟩:=juv w [J s.tx,U a s.YT.Vv.length ca,U b s.YT.YU.length cb,U c s.YT.YW.length cc,U d s.YS.Vv.length cd,U e s.YS.YU.length ce,U f s.YS.YW.length cf,J s.cur,U va s.vs.length cv,U ia s.ix.length ci] 31;have x4:=A1.c 8 (u:=U va s.vs.length cv) rfl;rw[<- cK]at x4;have jB:=jd1 s.vs va s.vs.length cv wA (hV.below b1) rfl CG;have HN:=hid hN;have HW:=hid hW;have HA:=hid cK;clear hN hW hV hX hv cK;unfold C;go_in;go_wp2_with fail;rw[HA.out];clear HA x4;refine jB.mono ?_;rintro q w2 ⟨lv,rfl,aW,ac⟩;rw[z1]at aW;obtain⟨pl,cl,rfl,eG⟩:=jkx aW;have A2:=A1.below ac;have O2:Zb w2 (w.heap.size+1) (U (some (O (w.heap.size+1) 0)) 0 0) []:=uZ O1 ac;have b2:=Zp b1 ac;have y1:=A2.c 1 (u:=U a s.YT.Vv.length ca) rfl;have y2:=A2.c 2 (u:=U b s.YT.YU.length cb) rfl;have y3:=A2.c 3 (u:=U c s.YT.YW.length cc) rfl;have y4:=A2.c 4 (u:=U d s.YS.Vv.length cd) rfl;have y5:=A2.c 5 (u:=U e s.YS.YU.length ce) rfl;have y6:=A2.c 6 (u:=U f s.YS.YW.length cf) rfl;have⟨L,j4⟩:=ZL (ZJ s.vs);rw[j4]at hL nV aW eG ⊢;have nE:=hid j4;have⟨nl,fH⟩:=ZL L.length;have jL:=hid fH;rw[fH]at eG hL ⊢;have dR:w.heap.size+1+1<=w2.heap.size:=by have:=ac.size;omega
 have⟨w4,yj,jN,KN,KW,TN,TW,z4⟩:=jsp w2 [U a s.YT.Vv.length ca,U b s.YT.YU.length cb,U c s.YT.YW.length cc,nS,nS] [U d s.YS.Vv.length cd,U e s.YS.YU.length ce,U f s.YS.YW.length cf,nS,nS];have kp:Jb w2 (w.heap.size+1) (U pl nl cl) L:=by rw[fH]at aW;exact Ez aW Q
 have⟨B,dr⟩:=ZL w2.heap.size;have bJ:Jn s w w4 w2.heap.size w2.heap.size (w2.heap.size+1) w.heap.size a b c d e f ca cb cc cd ce cf (stL s a b c d e f va ia ca cb cc cd ce cf cv ci) L (U pl nl cl) (BS (My s) (L.take 0)) 0 (U (some (O (w.heap.size+1) 0)) 0 0):=
  ⟨⟨_,_,[],[],_,_,[],[],jjq KN TN (ZD _),rfl,ZD _,jjq KW TW Q,rfl,ZD _,λg h1 h2=>by(have:=jwr h1;have:=jwr h2;omega)⟩,⟨_,0,0,rfl,uZ O2 jN,rfl,ZD _⟩,uZ kp jN,A2.below jN,(Zp b2 jN),by rw[z4];omega⟩
 have lQ:Hid (Jn s w w4 B B (B+1) w.heap.size a b c d e f ca cb cc cd ce cf (stL s a b c d e f va ia ca cb cc cd ce cf cv ci) L (U pl nl cl) (BS (My s) (L.take 0)) 0 (U (some (O (w.heap.size+1) 0)) 0 0)):=by simp only[Hid];rw[<- dr];exact bJ
 have HA:=hid yj;have gn:w.heap.size<B:=Q;have sZ:=hid eG;clear bJ KN KW TN TW yj jN aW kp O2 A2 b2 ac A1 O1 b1 z1 jB fH j4 eG z4;go_wp2;rw[HA.out];clear HA
 try simp only[dr]
 clear dr dR y1 y2 y3 y4 y5 y6;go_loopw [3,7,8,9] (λs3 s7 _ _ wr=>∃i:Nat,i<=nl/\s7=J i/\Hid (Jn s w wr B B (B+1) w.heap.size a b c d e f ca cb cc cd ce cf (stL s a b c d e f va ia ca cb cc cd ce cf cv ci) L (U pl nl cl) (BS (My s) (L.take i)) i s3)) (λ_ s7 _ _ _=>nl-(intOf s7).toNat)
 .exact⟨0,Q,rfl,lQ⟩
 ·
  have⟨wa,dS⟩:=wL wr;subst dS;obtain⟨i,hi,rfl,HR⟩:=hrel;clear lQ;have⟨go,mo,co,qJ,ly,iD,vi⟩:=HR.out.own;subst qJ;by_cases hlt:i<nl
  .have i1:(i:Int)<(nl:Int):=Q
   have i0:(0:Int)<=(i:Int):=Q;obtain⟨gl,rfl⟩:=sZ.out Q;obtain⟨ev,jb⟩:∃x,L[i]? =some x:=⟨_,ZV (by have:=jL.out;omega)⟩;have hR:=nV ev (ui jb);have HT:Hid (BS (My s) (L.take (i+1))=vaL (My s) (BS (My s) (L.take i)) ev):=jo5 jb;have yE:=hid jb;have⟨c0,c1,c2,c3,c4,c5⟩:=jf0 HR.out.live jb;have s7:=HR.out.sv.c 7 (u:=J s.cur) rfl;have NG:=hid ly;have xQ:mo<=1000:=by have h1:=jep (My s) (L.take i);rw[List.length_take]at h1;omega
   have HC:Hid (∀wx,Jn s w wx B B (B+1) w.heap.size a b c d e f ca cb cc cd ce cf (stL s a b c d e f va ia ca cb cc cd ce cf cv ci) L (so gl nl cl) (BS (My s) (L.take i)) i (so go mo co)->(∀zv tv zs ts,Zk wx B B s.YT a b c ca cb cc zv tv zs ts->ts.length=zs.length->zs.length<=i->C 72 #[.pointer (some (O B 0)),ev.v] wx (vcs B B s.YT a b c ca cb cc zv tv zs ev wx))/\(∀zv tv zs ts,Zk wx B (B+1) s.YS d e f cd ce cf zv tv zs ts->ts.length=zs.length->zs.length<=i->C 72 #[.pointer (some (O (B+1) 0)),ev.v] wx (vcs B (B+1) s.YS d e f cd ce cf zv tv zs ev wx))):=λwx h=>⟨λzv tv zs ts k1 k2 k3=>jd3 w B B s.YT a b c ca cb cc zv tv zs ts ev wx HN.out h.ZB Q h.lo ok.YT oG k1 k2 Q hR,λzv tv zs ts k1 k2 k3=>jd3 w B (B+1) s.YS d e f cd ce cf zv tv zs ts ev wx HW.out h.ZB Q h.lo ok.YS dC k1 k2 Q hR⟩
   have js:Hid (∀wx,Jn s w wx B B (B+1) w.heap.size a b c d e f ca cb cc cd ce cf (stL s a b c d e f va ia ca cb cc cd ce cf cv ci) L (so gl nl cl) (BS (My s) (L.take i)) (i+1) (so go mo co)->wx.cell? (O gl (i*6))=some (J ev.id)):=λwx h=>(jf0 h.live yE.out).1
   clear jb hR ly nV;go_upto_region 9 with fail
   go_cut [40]from 28 to 39 (λMb wx=>∃(bo:Bool) (nq:Nat),Mb=.bool bo/\wx=wa.drewN nq/\Hid (My s ev=if bo=true then vai s.YS ev else vai s.YT ev))
   case first=>
    by_cases h1:s.cur=0
    .have HM:Hid (My s ev=vai s.YT ev):=jrq (.inl h1)
     rw[h1]at s7;clear h1;go_quiet (fail);go_wp2;go_meet;exact⟨false,nq,rfl,rfl,HM.out⟩
    have ET:(s.cur != 0)=true:=by simp[h1]
    by_cases h2:ev.id<s.cur
    .have HM:Hid (My s ev=vai s.YT ev):=jrq (.inr h2)
     have tN:decide (s.cur<=ev.id)=false:=RO;clear h1 h2;go_quiet (fail);go_wp2;go_meet;exact⟨false,nq,rfl,rfl,HM.out⟩
    .have HM:Hid (My s ev=vai s.YS ev):=jzg (λh=>h.elim h1 h2)
     have tN:decide (s.cur<=ev.id)=true:=RO;clear h1 h2;go_quiet (fail);go_wp2;go_meet;exact⟨true,nq,rfl,rfl,HM.out⟩
   case rest=>
    obtain⟨bo,nq,rfl,rfl,xh⟩:=hcut;have uF:=HR.out.same (show Bw wa (wa.drewN nq)from⟨rfl,rfl,rfl,ZD _,λ_ _=>rfl⟩);have d0:(wa.drewN nq).cell? (O gl (i*6))=some (J ev.id):=c0;have d1:(wa.drewN nq).cell? (O gl (i*6+1))=some (I ev.name):=c1;have d2:(wa.drewN nq).cell? (O gl (i*6+2))=some (I ev.YZ):=c2;have d3:(wa.drewN nq).cell? (O gl (i*6+3))=some (J ev.YV):=c3;have d4:(wa.drewN nq).cell? (O gl (i*6+4))=some (J ev.Zz):=c4;have d5:(wa.drewN nq).cell? (O gl (i*6+5))=some (J ev.Zu):=c5;have lq:=uF.vgS Q Q ev (HC.out _ uF).1;have tY:=uF.vgT Q Q ev (HC.out _ uF).2;clear uF HC c0 c1 c2 c3 c4 c5 s7;simp only[Ze.v]at lq tY;generalize wa.drewN nq=wq at *;have⟨⟨M1,M2⟩,hM⟩:=ZL (My s ev);have HM:=vd9 hM;rw[xh.out]at hM;clear xh;cases bo
    all_goals
     first
     |rw[if_neg Bool.false_ne_true]at hM;rw[hM]at lq;have hC:=lq
     |rw[if_pos rfl]at hM;rw[hM]at tY;have hC:=tY
     clear hM lq tY;go_wp2_with fail;refine hC.mono ?_;rintro q w5 ⟨rfl,eC⟩;have f0:=js.out w5 eC;have gr:=vd9 eC;clear eC hC d0 d1 d2 d3 d4 d5;cases M2
     .have li:Hid (Jn s w w5 B B (B+1) w.heap.size a b c d e f ca cb cc cd ce cf (stL s a b c d e f va ia ca cb cc cd ce cf cv ci) L (so gl nl cl) (BS (My s) (L.take (i+1))) (i+1) (so go mo co)):=by
       simp only[Hid];rw[HT.out,vaL,HM.out,if_neg M];exact gr.out
      go_wp2;go_roundw
      .exact⟨i+1,Q,RP,li⟩
      .simp[intOf];omega
     .have⟨g5,m5,k5,vq,fe,kE,uY⟩:=gr.out.own
      injection vq with h1 h2 h3
      injection h1 with h1
      injection h1 with h1
      subst h1 h2 h3;have ir:=je8 (BS (My s) (L.take i)) ⟨M1,ev.id⟩ go mo co (w.heap.size+1) w5 fe kE uY xQ;have sV:=vd9 kE;clear fe kE;go_wp2_with fail;refine ir.mono ?_;rintro q w6 ⟨g6,c6,rfl,mu,fV,hb6⟩;have te:Hid (Jn s w w6 B B (B+1) w.heap.size a b c d e f ca cb cc cd ce cf (stL s a b c d e f va ia ca cb cc cd ce cf cv ci) L (so gl nl cl) (BS (My s) (L.take (i+1))) (i+1) (so g6 (mo+1) c6)):=by
       simp only[Hid];rw[HT.out,vaL,HM.out,if_pos rfl];exact gr.out.below hb6 ⟨g6,mo+1,c6,rfl,Ez fV (Nat.le_trans Q gr.out.lo),by rw[ja9,sV.out],mu⟩
      clear fV hb6 ir;go_wp2;go_roundw
      .exact⟨i+1,Q,RP,te⟩
      .simp[intOf];omega
  .obtain rfl:i=nl:=Q
   have HF:Hid (Zb wa w.heap.size (so go mo co) (BS (My s) L)):=by
    rw[List.take_of_length_le (by rw[jL.out];exact ZD _)]at ly;exact Ez ly Q
   have BP:=HR.out.ZB;clear ly;go_wp2;go_ret;exact⟨so go mo co,rfl,by rw[nE.out];exact HF.out,BP⟩
