import Derived.Test.YtmkjofknhdikpaaGreatDoorSXd
import Derived.Test.YtmkjofknhdikpaaGreatDoorTsTd
set_option maxRecDepth 100000
set_option maxHeartbeats 0
set_option linter.unusedSimpArgs false
open Go.RowKit
namespace Go.Proofs.YtmkjofknhdikpaaGreatDoor
variable{oI w wr:World}{B ca cb cc cd ce cf g h i pn pw:Nat}{a b c d e f:Option Addr}{s:Uo}{Tu:List Value}{L:List TD}{lv out:Value}{X:List TZ}
theorem jmj{S S2:Nat->Prop}{w1 w2:World}(h:Fr S w w1)(h2:Fr S2 w1 w2)(hs:∀b,b<w.heap.size->S2 b->S b):Fr S w w2:=
 ⟨h2.os.trans h.os,h2.tape.trans h.tape,h2.output.trans h.output,Nat.le_trans h.size h2.size,λb hb hn=>(h2.block b (Nat.lt_of_lt_of_le hb h.size) (λe=>hn (hs b hb e))).trans (h.block b hb hn)⟩
theorem jzt:∃i:TypeInfo,Tryz.prog.info? 9=some i/\i.zero=some (ZV)/\i.size=1/\i.bytes=16:=⟨_,rfl,rfl,rfl,rfl⟩
theorem jzs:∃i:TypeInfo,Tryz.prog.info? 110=some i/\i.zero=some (.agg #[nS,J 0])/\i.size=2/\i.bytes=32:=⟨_,rfl,rfl,rfl,rfl⟩
theorem jyl{n c:Nat}{ts:List VD}(h:w.ownsRow B 110 2 (so g n c) n (ts.map VD.cs).flatten){j:Nat}{t:VD}(hj:ts[j]? =some t)(hn:ts.length=n):w.cell? (O g (j*2))=some (U t.a t.n t.c)/\w.cell? (O g (j*2+1))=some (J t.code):=by
 have hl:=(List.getElem?_eq_some_iff.1 hj).1;have hr:(ts.map VD.cs)[j]? =some t.cs:=by rw[Uv,hj];rfl
 have h0:=WY jkr (i:=j) (j:=0) hr rfl;have h1:=WY jkr (i:=j) (j:=1) hr rfl;exact⟨by rw[h.cellAt (j*2) Q];exact h0,by rw[h.cellAt (j*2+1) Q];exact h1⟩
structure vdg(w0 w wx:World)(B p:Nat)(r:Un)(a b c:Option Addr)(ca cb cc:Nat)(zv tv:Value)(zs:List ByteArray)(ts:List VD)(z:ByteArray)(E:List Value)(n:Nat):Prop where
 ex:∃g1 aC,Zk wx B p r a b c ca cb cc (so g1 (n+1) aC) tv (zs++[z]) ts/\(zv.ownBlock=some g1\/w.heap.size<=g1)
 ev:Zh wx w.heap.size E
 fr:Fr (Xz p zv tv) w wx
 TQ:Bw w0 wx
 lo:B<=wx.heap.size
structure vcy(w wx:World)(B p:Nat)(r:Un)(a b c:Option Addr)(ca cb cc:Nat)(zv tv:Value)(zs:List ByteArray)(z:ByteArray)(E:List Value)(j:Nat):Prop where
 ex:∃lL gt nt ct l8 kZ t,Zk wx B p r a b c ca cb cc lL (so gt nt ct) l8 kZ/\l8[j]? =some z/\kZ[j]? =some t/\kZ.length=nt/\l8.length=nt/\nt<=zs.length+1/\∀g,Xz p lL (so gt nt ct) g->Xz p zv tv g\/w.heap.size<=g
 ev:Zh wx w.heap.size E
 fr:Fr (Xz p zv tv) w wx
structure ZF(e:TD):Prop where
 TH:e.TH.size<=8000
 w1: -62135596800<=e.Ty
 w2:e.Ty<=253402300799
 g1:0<=e.TM
 g2:e.TM<=2
 f1:0<=e.TL
 f2:e.TL<=2
theorem jd3(w0:World)(B p:Nat)(r:Un)(a b c:Option Addr)(ca cb cc:Nat)(zv tv:Value)(zs:List ByteArray)(ts:List VD)(ev:TD)(w:World)(hv:Zd w0 (.agg #[U a r.Tw.length ca,U b r.TC.length cb,U c r.TG.length cc]) r)(TQ:Bw w0 w)(ag:w0.heap.size<=B)(eM:B<=w.heap.size)(ok:Jk r)(hr:Um r=true)(hA:Zk w B p r a b c ca cb cc zv tv zs ts)(hl:ts.length=zs.length)(hn:zs.length<=1000)(jb:ZF ev):
  C 22 #[.pointer (some (O p 0)),ev.v] w (vaH B p r a b c ca cb cc zv tv zs ev w):=by
 obtain⟨id,name,TH,Ty,TM,TL⟩:=ev;have⟨k1,k2,k3,k4,k5,k6,k7⟩:=jb;simp only[TD.v]at *;obtain⟨pz,cz,rfl,vu⟩:=jkx hA.zo;obtain⟨pt,ct,rfl,kJ⟩:=jkx hA.UQ;rw[hl]at kJ;have Gs:=hA.zo;have CA:=hA.UQ;rw[hl]at CA hA ⊢;have⟨N,hN⟩:=TY zs.length;rw[hN]at hl hn vu kJ Gs CA hA ⊢;have HN:=hid hN;have HL:=hid hl;clear hN hl;have b0:Bw w (w.alloc (G #[J id,I name,I TH,J Ty,J TM,J TL] 43)):=TK _ _;have E0:Zh (w.alloc (G #[J id,I name,I TH,J Ty,J TM,J TL] 43)) w.heap.size [J id,I name,I TH,J Ty,J TM,J TL]:=Zh.new w [J id,I name,I TH,J Ty,J TM,J TL] 43;have eK:=hA.below b0;have vt:=jkq hA.typ;have HA:=hid hA;have HV:=hid hv;have sT:=hid TQ;have Es:=hid vu;have oR:=hid kJ;clear hA hv TQ vu kJ Gs CA;delta C;go_in;go_wp2;have dP:(w.alloc (G #[J id,I name,I TH,J Ty,J TM,J TL] 43)).heap.size=w.heap.size+1:=M;generalize (w.alloc (G #[J id,I name,I TH,J Ty,J TM,J TL] 43))=wA at *;have xq:=hid dP;clear dP;go_loopw [6,7] (λs6 s7 wr=>∃i:Nat,i<=N/\s7=J i/\s6=J (Yo zs TH i)/\Bw wA wr) (λ_ s7 _=>N-(intOf s7).toNat)
 .exact⟨0,Q,rfl,rfl,Ui _ _⟩
 ·
  have⟨wa,dS⟩:=UL wr;subst dS;obtain⟨i,hi,rfl,rfl,aK⟩:=hrel;have fR:=eK.below aK;have Er:=E0.below aK;have p3:=fR.v.c 3 (u:=(U pz N cz)) rfl;have e2:=Er.c 2 (u:=I TH) rfl;by_cases hlt:i<N
  .have i1:(i:Int)<(N:Int):=Q
   have i0:(0:Int)<=(i:Int):=Q;obtain⟨y,hy⟩:∃y,zs[i]? =some y:=⟨_,Ug (by have:=HN.out;omega)⟩;obtain⟨gz,rfl⟩:=Es.out Q;have CQ:=fR.zo;rw[HN.out]at CQ;have y0:wa.cell? (O gz i)=some (I y):=by rw[CQ.cellAt i Q,Uv,hy];rfl
   have xd:=hid aK;have HY:=hid hy;clear hy CQ fR Er aK eK E0;cases hb:(y.toList==TH.toList)
   .have HK:Hid (Yo zs TH (i+1)=Yo zs TH i):=jr0 HY.out hb
    generalize Yo zs TH i=k0 at *;go_wp2_with fail;go_quiet (fail);go_wp2;go_roundw
    .exact⟨i+1,Q,Z7,by rw[HK.out],xd.out.trans (⟨rfl,rfl,rfl,TP _,λ_ _=>rfl⟩)⟩
    .simp[intOf];omega
   .have HK:Hid (Yo zs TH (i+1)=i):=job HY.out hb
    generalize Yo zs TH i=k0 at *;go_wp2_with fail;go_quiet (fail);go_wp2;go_roundw
    .exact⟨i+1,Q,Z7,by rw[HK.out],xd.out.trans (⟨rfl,rfl,rfl,TP _,λ_ _=>rfl⟩)⟩
    .simp[intOf];omega
  .obtain rfl:i=N:=Q
   have f9:Bw w wa:=b0.trans (aK.mono (by have:=xq.out;omega));have th:=hid f9;have oP:=hid fR;have yF:=hid Er;have Gg:p<wa.heap.size:=jkq fR.typ;have uS:w.heap.size<wa.heap.size:=TV e2;have Jv:B<=wa.heap.size:=Nat.le_trans eM f9.size;have Pe:=vt;have lc:=hid e2;clear f9 aK fR Er eK E0 b0 vt e2;go_upto_if 30 with fail
   go_cut [6]from 29 to 62 (λs6 wx=>∃j:Nat,s6=J j/\vcy w wx B p r a b c ca cb cc (U pz i cz) (U pt i ct) zs TH [J id,I name,I TH,J Ty,J TM,J TL] j)
   case first=>
    rcases jl9 zs TH i with h|⟨j,h,hj⟩
    .rw[h]
     clear h;have⟨is,Ka,dP,bU,dR⟩:=jzt;have⟨it,sD,KH,KI,eH⟩:=jzs;have ba:∀o,Bw wa (wa.drew.alloc o):=λo=>(show Bw wa wa.drew from UF wa).alloc (TP _) o
     have FK:wa.ownsRow B 9 1 (U pz i cz) i (zs.map Value.string):=by have:=oP.out.zo;rw[HN.out]at this;exact this
     have GK:=oP.out.v.f 3 (u:=U pz i cz) rfl;have e2:=lc.out;have az:some p≠(U pz i cz).ownBlock:=jgv oP.out.zo oP.out.typ Z5;have ov:some w.heap.size≠(U pz i cz).ownBlock:=λe=>by have:=(World.ownsRow.lt HA.out.zo _ e.symm).2;omega
     go_upto_region 9 with fail
     go_cut []from 36 to 46 (λwx=>vdg w0 w wx B p r a b c ca cb cc (U pz i cz) (U pt i ct) zs ts TH [J id,I name,I TH,J Ty,J TM,J TL] i)
     case first=>
      go_region_law (refine step_append_lies _ Z9 (.tmp 40) (.tmp 43) 59 Z9 B 9 is (ZV) 1 16 Tryz.underlying59 Ka dP bU dR rfl Q (U pz i cz) i (zs.map Value.string) Z9 (UC (w:=wa.drew) FK _) (O wa.heap.size 0) 1 1 [I TH] Z9 rfl (Vy _ _ _) (by intro u hu;simp at hu;subst hu;rfl) Q (by unfold maxLen;omega) Q Z6 _ rfl ?_;intro g1 aC w2 av af bE hlt1;have r1:=af.cell (a:=(O p 3)) (Tx (ba _) p3) az;have r2:=(af.frozen_far (O p 3) Z6 az).trans (((Uq (ba _)).2 _ _ Gg).trans GK))
      all_goals
       have h3:=(oP.out.below (ba _)).vgu (by rw[HL.out,HN.out]) af (by rw[HN.out];exact av);have f1:Fr (Xz p (U pz i cz) (U pt i ct)) w (wa.drew.alloc (G #[I TH] 9)):=Fr.of_below (th.out.trans ((ba _).mono th.out.size));have f2:=jmj f1 h3.2 (λ_ _ h=>h);have HZ:Hid (vdg w0 w (w2.setCell (O p 3) (so g1 (i+1) aC)) B p r a b c ca cb cc (U pz i cz) (U pt i ct) zs ts TH [J id,I name,I TH,J Ty,J TM,J TL] i):=by
        refine⟨⟨g1,aC,h3.1,bE.imp_right λe=>?_⟩,?_,f2,?_,?_⟩
        .rw[e];exact Nat.le_trans th.out.size (ba (G #[I TH] 9)).size
        .exact((yF.out.below (ba _)).fr (Fr.XY af) (λe=>ov e.symm)).other Q _
        .exact sT.out.trans (f2.below (λg hg=>Nat.le_trans ag (HA.out.low hg)) sT.out.size)
        .exact Nat.le_trans eM f2.size
       clear h3 f1 f2 av af bE hlt1 r1 r2;go_wp2;go_meet;exact HZ.out
     case rest=>
      have⟨w3,gm⟩:=UL wc;subst gm;have⟨g1,aC,kg,cQ⟩:=hcut.ex;have E3:=hcut.ev;have xe:=hid hcut.fr;have ar:=hcut.TQ;have jg:=hcut.lo;clear hcut;have z0:=kg.v.c 0 (u:=U a r.Tw.length ca) rfl;have z1:=kg.v.c 1 (u:=U b r.TC.length cb) rfl;have z2:=kg.v.c 2 (u:=U c r.TG.length cc) rfl;have z4:=kg.v.c 4 (u:=U pt i ct) rfl;have NE:=kg.v.f 4 (u:=U pt i ct) rfl;have y2:=E3.c 2 (u:=I TH) rfl;have hC:=jsy veC r (.agg #[U a r.Tw.length ca,U b r.TC.length cb,U c r.TG.length cc]) TH w3.drew (HV.out.below (ar.trans ((UF w3).mono ar.size))) ok.sm ok.on k1 hr;have Hd:=hid kg;have yD:Hid (Zh w3 w.heap.size [J id,I name,I TH,J Ty,J TM,J TL]):=E3;have Eg:=hid cQ;have eD:w3.ownsRow B 110 2 (U pt i ct) i (ts.map VD.cs).flatten:=by have:=kg.UQ;rw[HL.out]at this;exact this
      have mG:some p≠(U pt i ct).ownBlock:=jgv kg.UQ kg.typ Z5;have Gf:p<w3.heap.size:=jkq kg.typ;have d0:w3.drew.cell? (O p 0)=some (U a r.Tw.length ca):=z0;have d1:w3.drew.cell? (O p 1)=some (U b r.TC.length cb):=z1;have d2:w3.drew.cell? (O p 2)=some (U c r.TG.length cc):=z2;have d4:w3.drew.cell? (O p 4)=some (U pt i ct):=z4;have dy:w3.drew.cell? (O w.heap.size 2)=some (I TH):=y2;have Gh:p≠w.heap.size:=Q;clear kg E3 cQ ar p3 e2 GK FK ba az ov;go_wp2_with fail;go_region_law (first|(go_simp;go_at_call 53;refine hC.mono ?_;rintro q w7 ff;have⟨v7,yg,cj,ay⟩:=ff.ex;obtain⟨a7,m7,d7,rfl⟩:=UY cj;have⟨k9,G1⟩:=TY ((UJ r TH).1);rw[G1]at yg;subst yg;clear ff;have m0:=Tx ay d0;have m1:=Tx ay d1;have m2:=Tx ay d2;have m4:=Tx ay d4;have my:=Tx ay dy;have Lh:=((Uq ay).2 _ _ Gf).trans NE;have mj:=UG eD (show Bw w3 w7 from(UF w3).trans (ay.mono (TP _)));have f8:w3.heap.size<=w7.heap.size:=ay.size;have Cu:p<w7.heap.size:=Nat.lt_of_lt_of_le Gf f8;have nM:=TK w7 (G #[U a7 m7 d7,J k9] 110);have PB:=Tx nM m4)|(refine step_append_lies _ Z9 (.tmp 51) (.tmp 59) 60 Z9 B 110 it (.agg #[nS,J 0]) 2 32 Tryz.underlying60 sD KH KI eH rfl Q (U pt i ct) i (ts.map VD.cs).flatten Z9 (UC (w:=w7) mj _) (O w7.heap.size 0) 1 1 [U a7 m7 d7,J k9] Z9 rfl (Vy _ _ _) (by intro u hu;simp at hu;rcases hu with rfl|rfl<;>rfl) Q (by unfold maxLen;omega) Q Z6 _ rfl ?_;intro g2 bL w8 aw af bE hlt2;have s1:=af.cell (a:=(O p 4)) (Tx nM m4) mG;have s2:=(af.frozen_far (O p 4) Z6 mG).trans (((Uq nM).2 _ _ Cu).trans Lh)))
      all_goals
       have yk:Bw w3 w7:=(UF w3).trans (ay.mono (TP _));have EW:=(Hd.out.below yk).below nM;have F8:Jg w7 ⟨a7,m7,d7,k9⟩ (UJ r TH):=by have h:=ju2 (x:=UJ r TH) cj;rw[G1]at h;exact h
       have h3:=EW.vgt (t:=⟨a7,m7,d7,k9⟩) (by rw[HL.out,HN.out]) (F8.below nM) af (by rw[HL.out];exact aw)
       have f3:=jmj (jmj xe.out (Fr.of_below (S:=λ_=>False) (TJ yk nM)) (λ_ _ h=>h.elim)) h3.2 (λg hg h=>by
        rcases h with h|h|h
        .exact .inl h
        .injection h with h
         have h:g1=g:=h;subst h;rcases Eg.out with h2|h2
         .exact .inr (.inl h2)
         .omega
        .exact .inr (.inr h))
       have HD:Hid (vcy w (w8.setCell (O p 4) (so g2 (i+1) bL)) B p r a b c ca cb cc (U pz i cz) (U pt i ct) zs TH [J id,I name,I TH,J Ty,J TM,J TL] i):=by
        refine⟨⟨so g1 (i+1) aC,g2,i+1,bL,zs++[TH],ts++[⟨a7,m7,d7,k9⟩],⟨a7,m7,d7,k9⟩,h3.1,?_,?_,by rw[Vq,HL.out];rfl,by rw[Vq,HN.out];rfl,by rw[HN.out];omega,λg hg=>?_⟩,?_,f3⟩
        .rw[List.getElem?_append_right (by rw[HN.out];omega),HN.out,Nat.sub_self];rfl
        .rw[List.getElem?_append_right (by rw[HL.out];omega),HL.out,Nat.sub_self];rfl
        .rcases hg with hg|hg|hg
         .exact .inl (.inl hg)
         .injection hg with hg
          have hg:g1=g:=hg;subst hg;exact Eg.out.imp (λh=>.inr (.inl h)) (λh=>h)
         .injection hg with hg
          have hg:g2=g:=hg;subst hg;refine bE.imp (λh=>.inr (.inr h)) (λh=>?_);rw[h];exact Nat.le_trans (Nat.le_trans xe.out.size f8) nM.size
        .refine Zh.other (Zh.fr ((yD.out.below yk).below nM) (Fr.XY af) (λe=>?_)) Q _
         have:=(World.ownsRow.lt HA.out.UQ _ e).2;omega
       clear h3 f3 EW F8 yk aw af bE hlt2 s1 s2 cj ay mj;go_wp2;go_meet;exact⟨i,rfl,HD.out⟩
    .rw[h]
     clear h;have Kc:j<i:=by have h1:=(List.getElem?_eq_some_iff.1 hj).1;have:=HN.out;omega
     obtain⟨t,sK⟩:∃t,ts[j]? =some t:=⟨_,Ug (by have:=HL.out;omega)⟩;obtain⟨gt,rfl⟩:=oR.out Q;have j2:¬(j:Int)<0:=Q;have HD:Hid (vcy w wa B p r a b c ca cb cc (U pz i cz) (so gt i ct) zs TH [J id,I name,I TH,J Ty,J TM,J TL] j):=⟨⟨_,gt,i,ct,zs,ts,t,oP.out,hj,sK,HL.out,HN.out,by have:=HN.out;omega,λg hg=>.inl hg⟩,yF.out,Fr.of_below th.out⟩;clear hj sK;go_wp2;go_meet;exact⟨j,rfl,HD.out⟩
   case rest=>
    obtain⟨j,rfl,hcut⟩:=hcut;have⟨wt,KX⟩:=UL wc;subst KX;have⟨lL,gt,nt,zf,l8,kZ,⟨ta,tn,tc,tk⟩,cY,hj,sK,fG,aF,gF,hin⟩:=hcut.ex;have Er:=hcut.ev;have yG:=hid hcut.fr;clear hcut;have Kc:j<nt:=by have h1:=(List.getElem?_eq_some_iff.1 hj).1;omega
    have CB:=cY.UQ;rw[fG]at CB;have⟨r0,r1⟩:=jyl CB sK fG;dsimp only at r0 r1;have nJ:Hid (Jg wt ⟨ta,tn,tc,tk⟩ (UJ r TH)):=cY.tab j TH _ hj sK;have q4:=cY.v.c 4 (u:=so gt nt zf) rfl;have e3:=Er.c 3 (u:=J Ty) rfl;have e4:=Er.c 4 (u:=J TM) rfl;have e5:=Er.c 5 (u:=J TL) rfl;have j1:(j:Int)<(nt:Int):=Q;have j0:(0:Int)<=(j:Int):=Q;have td:Hid (∀w' n7 b7,Bw wt w'->Vf r ⟨id,name,TH,Ty,TM,TL⟩=(n7,b7)->vaH B p r a b c ca cb cc (U pz i cz) (U pt i ct) zs ⟨id,name,TH,Ty,TM,TL⟩ w (V (.tuple #[J n7,Z b7])) w'):=λw' n7 b7 hb hm=>by
     exact⟨by rw[hm],⟨lL,so gt nt zf,l8,kZ,cY.below hb,Q,Q,hin⟩,jmj yG.out (Fr.of_below (S:=λ_=>False) hb) (λ_ _ h=>h.elim)⟩
    clear cY Er CB hj sK hin fG aF gF p3 Gg uS oP yF th lc Es oR HA;by_cases hk:tk=0
    .subst hk
     have hd:(UJ r TH).1=0:=nJ.out.code.symm;have oz:=(jm1 hd).2.2.2.right;have HM:Hid (Vf r ⟨id,name,TH,Ty,TM,TL⟩=((YD (UJ r TH).2 Ty TM TL).1,decide ((YD (UJ r TH).2 Ty TM TL).2=0))):=by
      simp only[Hid];unfold Vf;rw[jrp hd,jri oz (ZS k2 k3) (ZS k4 k5) (ZS k6 k7)]
     have fH:=nJ.out.n;have iQ:=nJ.out.seq;dsimp only at fH iQ;have⟨l,i9⟩:=TY ((UJ r TH).2);rw[i9]at oz HM fH iQ;subst fH;clear i9 hd;have hR:=λW h=>jh6 l (.agg #[U ta l.length tc]) Ty TM TL W h (j0x oz) k2 k3 k4 k5 k6 k7
     have bA:=UF wt;have bB:Bw wt (wt.alloc (G #[J 0,J 0] 113)).drew:=(TK wt _).trans ((UF _).mono M);have TA:Zy wt.drew (.agg #[U ta l.length tc]) l:=⟨ta,tc,rfl,iQ.below bA⟩;have TB:Zy (wt.alloc (G #[J 0,J 0] 113)).drew (.agg #[U ta l.length tc]) l:=⟨ta,tc,rfl,iQ.below bB⟩;have⟨⟨n7,c7⟩,sG⟩:=TY (YD l Ty TM TL);rw[sG]at hR HM;simp only[UW]at hR;clear sG iQ oz;have D8:=Tx bA q4;have D9:=Tx bB q4;have:=World.new_ne wt _ q4;have Db:=Tx bA r0;have Dc:=Tx bB r0;have:=World.new_ne wt _ r0;have zO:=Tx bA e3;have zP:=Tx bB e3;have:=World.new_ne wt _ e3;have zR:=Tx bA e4;have zS:=Tx bB e4;have:=World.new_ne wt _ e4;have zU:=Tx bA e5;have zV:=Tx bB e5;have:=World.new_ne wt _ e5;obtain⟨yt,yu,Af,Ag⟩:(λz:World=>z.cell? (O wt.heap.size 0)=some (J 0)/\z.cell? (O wt.heap.size 1)=some (J 0)/\z.frozen? (O wt.heap.size 0)=false/\z.frozen? (O wt.heap.size 1)=false) ((wt.alloc (G #[J 0,J 0] 113)).drew):=Z8;go_wp2_with fail;go_region_held3 (λw'=>w'.cell? (O p 4)=some (so gt (nt) zf)/\w'.cell? (O gt (j*2))=some (U ta l.length tc)/\w'.cell? (O w.heap.size 3)=some (J Ty)/\w'.cell? (O w.heap.size 4)=some (J TM)/\w'.cell? (O w.heap.size 5)=some (J TL)) (go_keep) (first|(go_at_call 54;refine(hR _ TA).mono ?_;rintro q w7 ⟨rfl,ay⟩;have dz:=TJ bA ay;have D7:=Tx ay D8;have Da:=Tx ay Db;have zN:=Tx ay zO;have zQ:=Tx ay zR;have zT:=Tx ay zU)|(go_at_call 54;refine(hR _ TB).mono ?_;rintro q w7 ⟨rfl,ay⟩;have dz:=TJ bB ay;have D7:=Tx ay D9;have Da:=Tx ay Dc;have zN:=Tx ay zP;have zQ:=Tx ay zS;have zT:=Tx ay zV;have wI:=Tx ay yt;have wK:=Tx ay yu;have ka:=U2 ay yt Af;have kd:=U2 ay yu Ag))
     .skip
      have B9:Bw wt (w7.alloc (G #[J n7,J c7] 113)):=dz.alloc dz.size _;obtain⟨t0,t1⟩:(λz:World=>z.cell? (O w7.heap.size 0)=some (J n7)/\z.cell? (O w7.heap.size 1)=some (J c7)) (w7.alloc (G #[J n7,J c7] 113)):=Z8;have l9:=hid B9;clear B9 dz ay;clear hR TA TB D7 D8 D9 Da Db Dc zN zO zP zQ zR zS zT zU zV yt yu Af Ag bA bB;generalize (w7.alloc (G #[J n7,J c7] 113))=w9 at *;by_cases hc:c7=0
      .subst hc
       go_wp2_with fail;go_quiet (fail);go_wp2;go_ret2;exact td.out _ _ _ (l9.out.trans (⟨rfl,rfl,rfl,TP _,λ_ _=>rfl⟩)) (by rw[HM.out];rfl)
      .have cU:(c7==0)=false:=by simp[hc]
       go_wp2_with fail;go_quiet (fail);go_wp2;go_ret2;exact td.out _ _ _ (l9.out.trans (⟨rfl,rfl,rfl,TP _,λ_ _=>rfl⟩)) (by rw[HM.out,dfe hc])
     .skip
      have B9:Bw wt ((w7.setCell (O wt.heap.size 0) (J n7)).setCell (O wt.heap.size 1) (J c7)):=(dz.setCell (TP _) _).setCell (TP _) _;have⟨t0,t1⟩:=XC (v0:=J n7) (v1:=J c7) wI wK;have l9:=hid B9;clear B9 dz ay;clear hR TA TB D7 D8 D9 Da Db Dc zN zO zP zQ zR zS zT zU zV yt yu Af Ag bA bB wI wK ka kd;generalize ((w7.setCell (O wt.heap.size 0) (J n7)).setCell (O wt.heap.size 1) (J c7))=w9 at *;by_cases hc:c7=0
      .subst hc
       go_wp2_with fail;go_quiet (fail);go_wp2;go_ret2;exact td.out _ _ _ (l9.out.trans (⟨rfl,rfl,rfl,TP _,λ_ _=>rfl⟩)) (by rw[HM.out];rfl)
      .have cU:(c7==0)=false:=by simp[hc]
       go_wp2_with fail;go_quiet (fail);go_wp2;go_ret2;exact td.out _ _ _ (l9.out.trans (⟨rfl,rfl,rfl,TP _,λ_ _=>rfl⟩)) (by rw[HM.out,dfe hc])
    .have fy:(tk==0)=false:=by simp[hk]
     go_wp2;go_ret2;exact td.out _ _ _ (Ui _ _) (by unfold Vf;rw[jv3 (by rw[<- nJ.out.code];exact hk)])
structure Jn(s:Uo)(w wr:World)(B pn pw h:Nat)(a b c d e f:Option Addr)(ca cb cc cd ce cf:Nat)(Tu:List Value)(L:List TD)(lv:Value)(X:List TZ)(i:Nat)(out:Value):Prop where
 ex:∃nA nr nv oM nB nu ny oN,Zk wr B pn s.Tz a b c ca cb cc nA nr nv oM/\oM.length=nv.length/\nv.length<=i/\Zk wr B pw s.TE d e f cd ce cf nB nu ny oN/\oN.length=ny.length/\ny.length<=i/\∀g,Xz pn nA nr g->¬Xz pw nB nu g
 own:∃g m k,out=so g m k/\Zb wr (h+1) out X/\X.length=m/\m<=k
 live:Jb wr (h+1) lv L
 sv:Zh wr h Tu
 TQ:Bw w wr
 lo:B<=wr.heap.size
theorem Jn.below{X2:List TZ}{am:Value}(hR:Jn s w wr B pn pw h a b c d e f ca cb cc cd ce cf Tu L lv X i out)(hb:Bw wr oI)(ho:∃g m k,am=so g m k/\Zb oI (h+1) am X2/\X2.length=m/\m<=k):Jn s w oI B pn pw h a b c d e f ca cb cc cd ce cf Tu L lv X2 i am:=by
 have⟨nA,nr,nv,oM,nB,nu,ny,oN,h1,h2,h3,h4,h5,h6,h7⟩:=hR.ex;exact⟨⟨nA,nr,nv,oM,nB,nu,ny,oN,h1.below hb,h2,h3,h4.below hb,h5,h6,h7⟩,ho,UG hR.live hb,hR.sv.below hb,hR.TQ.trans (hb.mono hR.TQ.size),Nat.le_trans hR.lo hb.size⟩
theorem Jn.same(hR:Jn s w wr B pn pw h a b c d e f ca cb cc cd ce cf Tu L lv X i out)(hb:Bw wr oI):Jn s w oI B pn pw h a b c d e f ca cb cc cd ce cf Tu L lv X i out:=by
 have⟨g,m,k,h1,h2,h3⟩:=hR.own;exact hR.below hb ⟨g,m,k,h1,UG h2 hb,h3⟩
theorem Jn.ve4(hR:Jn s w wr B pn pw h a b c d e f ca cb cc cd ce cf Tu L lv X i out)(hh:h<B)(gn:w.heap.size<=B)(ev:TD)
  (hC:∀zv tv zs ts,Zk wr B pn s.Tz a b c ca cb cc zv tv zs ts->ts.length=zs.length->zs.length<=i->C 22 #[.pointer (some (O pn 0)),ev.v] wr (vaH B pn s.Tz a b c ca cb cc zv tv zs ev wr)):
  C 22 #[.pointer (some (O pn 0)),ev.v] wr λq w2=>q=V (.tuple #[J (Vf s.Tz ev).1,Z (Vf s.Tz ev).2])/\Jn s w w2 B pn pw h a b c d e f ca cb cc cd ce cf Tu L lv X (i+1) out:=by
 have⟨nA,nr,nv,oM,nB,nu,ny,oN,h1,h2,h3,h4,h5,h6,h7⟩:=hR.ex;refine(hC nA nr nv oM h1 h2 h3).mono λq w2 hP=>⟨hP.ex,?_⟩
 have hf:=hP.fr;have⟨lL,SX,l8,kZ,k1,k2,k3,k4⟩:=hP.cache;have⟨g,m,k,o1,o2,o3⟩:=hR.own;have fv:∀g,(∃cs,wr.heap[g]? =some (G cs 157 (0,0)))->¬Xz pn nA nr g:=λg hg=>h1.not hg Z5 Z5 Z5
 have qq:=ZL o2 hf (λg hg=>h1.not (YA o2 hg) Z5 Z5 Z5);have Dm:=ZL hR.live hf (λg hg=>h1.not (YA hR.live hg) Z5 Z5 Z5);have SV:=hR.sv.fr hf (λe=>by have:=h1.low e;omega);have df:Bw w w2:=hR.TQ.trans (hf.below (λg hg=>Nat.le_trans gn (h1.low hg)) hR.TQ.size);have hO:=h4.fr hf (λg hg hx=>h7 g hx hg) fv;refine⟨⟨lL,SX,l8,kZ,nB,nu,ny,oN,k1,k2,Q,hO,h5,Q,λg hg hx=>?_⟩,⟨g,m,k,o1,qq,o3⟩,Dm,SV,df,Nat.le_trans hR.lo hf.size⟩;rcases k4 g hg with hg|hg
 .exact h7 g hg hx
 .have⟨t,ht,_⟩:=h4.kind hx
  have:=jkq ht;omega
theorem Jn.ve5(hR:Jn s w wr B pn pw h a b c d e f ca cb cc cd ce cf Tu L lv X i out)(hh:h<B)(gn:w.heap.size<=B)(ev:TD)
  (hC:∀zv tv zs ts,Zk wr B pw s.TE d e f cd ce cf zv tv zs ts->ts.length=zs.length->zs.length<=i->C 22 #[.pointer (some (O pw 0)),ev.v] wr (vaH B pw s.TE d e f cd ce cf zv tv zs ev wr)):
  C 22 #[.pointer (some (O pw 0)),ev.v] wr λq w2=>q=V (.tuple #[J (Vf s.TE ev).1,Z (Vf s.TE ev).2])/\Jn s w w2 B pn pw h a b c d e f ca cb cc cd ce cf Tu L lv X (i+1) out:=by
 have⟨nA,nr,nv,oM,nB,nu,ny,oN,h1,h2,h3,h4,h5,h6,h7⟩:=hR.ex;refine(hC nB nu ny oN h4 h5 h6).mono λq w2 hP=>⟨hP.ex,?_⟩
 have hf:=hP.fr;have⟨lL,SX,l8,kZ,k1,k2,k3,k4⟩:=hP.cache;have⟨g,m,k,o1,o2,o3⟩:=hR.own;have fv:∀g,(∃cs,wr.heap[g]? =some (G cs 157 (0,0)))->¬Xz pw nB nu g:=λg hg=>h4.not hg Z5 Z5 Z5
 have qq:=ZL o2 hf (λg hg=>h4.not (YA o2 hg) Z5 Z5 Z5);have Dm:=ZL hR.live hf (λg hg=>h4.not (YA hR.live hg) Z5 Z5 Z5);have SV:=hR.sv.fr hf (λe=>by have:=h4.low e;omega);have df:Bw w w2:=hR.TQ.trans (hf.below (λg hg=>Nat.le_trans gn (h4.low hg)) hR.TQ.size);have hO:=h1.fr hf (λg hg hx=>h7 g hg hx) fv;refine⟨⟨nA,nr,nv,oM,lL,SX,l8,kZ,hO,h2,Q,k1,k2,Q,λg hg hx=>?_⟩,⟨g,m,k,o1,qq,o3⟩,Dm,SV,df,Nat.le_trans hR.lo hf.size⟩;rcases k4 g hx with hx|hx
 .exact h7 g hg hx
 .have⟨t,ht,_⟩:=h1.kind hg
  have:=jkq ht;omega
theorem jrq{e:TD}(h:s.cur=0\/e.id<s.cur):VA s e=Vf s.Tz e:=if_pos h
theorem jzg{e:TD}(h:¬(s.cur=0\/e.id<s.cur)):VA s e=Vf s.TE e:=if_neg h
theorem jwr{p:Nat}(h:Xz p nS nS g):g=p:=by
 rcases h with h|h|h
 .exact h
 .cases h
 .cases h
abbrev stL(s:Uo)(a b c d e f va ia:Option Addr)(ca cb cc cd ce cf cv ci:Nat):List Value:=
 [J s.tx,U a s.Tz.Tw.length ca,U b s.Tz.TC.length cb,U c s.Tz.TG.length cc,U d s.TE.Tw.length cd,U e s.TE.TC.length ce,U f s.TE.TG.length cf,J s.cur,U va s.vs.length cv,U ia s.ix.length ci]
theorem jsp(w:World)(L lH:List Value):∃x,(w.alloc (G L.toArray 62)).alloc (G lH.toArray 62)=x/\Bw w x/\Zh x w.heap.size L/\Zh x (w.heap.size+1) lH/\(∃cs,x.heap[w.heap.size]? =some (G cs 62 (0,0)))/\(∃cs,x.heap[w.heap.size+1]? =some (G cs 62 (0,0)))/\x.heap.size=w.heap.size+1+1:=by
 have⟨e,z,b⟩:=j06 w (G L.toArray 62) (G lH.toArray 62);have h:=Zh.new (w.alloc (G L.toArray 62)) lH 62;have g:=heap_alloc_new (w.alloc (G L.toArray 62)) (G lH.toArray 62);have bW:Below _ _ ((w.alloc (G L.toArray 62)).alloc (G lH.toArray 62)):=TK _ _;rw[e]at h g;exact⟨_,rfl,b,(Zh.new w L _).below bW,h,⟨_,(bW.block _ M).trans (heap_alloc_new w _)⟩,⟨_,g⟩,z⟩
theorem jh5(s:Uo)(v:Value)(w:World)(hv:Jd w v s)(ok:Zr s)(oG:Um s.Tz=true)(dC:Um s.TE=true)(CG:s.vs.length<=1000)(hL:(Uf s.vs).length<=1000)(nV:∀e∈Uf s.vs,ZF e):
  C 29 #[v] w λq w'=>∃x,q=V x/\Zb w' w.heap.size x (UK (VA s) (Uf s.vs))/\Bw w w':=by
 obtain⟨a,b,c,d,e,f,va,ia,ca,cb,cc,cd,ce,cf,cv,ci,rfl,hN,hW,hV,hX,_,_⟩:=hv.form;have⟨wA,cK,b1,A1,O1,z1⟩:=juv w [J s.tx,U a s.Tz.Tw.length ca,U b s.Tz.TC.length cb,U c s.Tz.TG.length cc,U d s.TE.Tw.length cd,U e s.TE.TC.length ce,U f s.TE.TG.length cf,J s.cur,U va s.vs.length cv,U ia s.ix.length ci] 31;have x4:=A1.c 8 (u:=U va s.vs.length cv) rfl;rw[<- cK]at x4;have jB:=jd1 s.vs va s.vs.length cv wA (hV.below b1) rfl CG;have HN:=hid hN;have HW:=hid hW;have HA:=hid cK;clear hN hW hV hX hv cK;delta C;go_in;go_wp2_with fail;rw[HA.out];clear HA x4;refine jB.mono ?_;rintro q w2 ⟨lv,rfl,aW,ac⟩;rw[z1]at aW;obtain⟨pl,cl,rfl,eG⟩:=jkx aW;have A2:=A1.below ac;have O2:Zb w2 (w.heap.size+1) (U (some (O (w.heap.size+1) 0)) 0 0) []:=UG O1 ac;have b2:=TJ b1 ac;have y1:=A2.c 1 (u:=U a s.Tz.Tw.length ca) rfl;have y2:=A2.c 2 (u:=U b s.Tz.TC.length cb) rfl;have y3:=A2.c 3 (u:=U c s.Tz.TG.length cc) rfl;have y4:=A2.c 4 (u:=U d s.TE.Tw.length cd) rfl;have y5:=A2.c 5 (u:=U e s.TE.TC.length ce) rfl;have y6:=A2.c 6 (u:=U f s.TE.TG.length cf) rfl;have⟨L,j4⟩:=TY (Uf s.vs);rw[j4]at hL nV aW eG ⊢;have nE:=hid j4;have⟨nl,fH⟩:=TY L.length;have jL:=hid fH;rw[fH]at eG hL ⊢;have dR:w.heap.size+1+1<=w2.heap.size:=by have:=ac.size;omega
 have⟨w4,yj,jN,KN,KW,TN,TW,z4⟩:=jsp w2 [U a s.Tz.Tw.length ca,U b s.Tz.TC.length cb,U c s.Tz.TG.length cc,nS,nS] [U d s.TE.Tw.length cd,U e s.TE.TC.length ce,U f s.TE.TG.length cf,nS,nS];have kp:Jb w2 (w.heap.size+1) (U pl nl cl) L:=by rw[fH]at aW;exact U4 aW Q
 have⟨B,dr⟩:=TY w2.heap.size;have bJ:Jn s w w4 w2.heap.size w2.heap.size (w2.heap.size+1) w.heap.size a b c d e f ca cb cc cd ce cf (stL s a b c d e f va ia ca cb cc cd ce cf cv ci) L (U pl nl cl) (UK (VA s) (L.take 0)) 0 (U (some (O (w.heap.size+1) 0)) 0 0):=
  ⟨⟨_,_,[],[],_,_,[],[],jjq KN TN (TP _),rfl,TP _,jjq KW TW Q,rfl,TP _,λg h1 h2=>by(have:=jwr h1;have:=jwr h2;omega)⟩,⟨_,0,0,rfl,UG O2 jN,rfl,TP _⟩,UG kp jN,A2.below jN,(TJ b2 jN),by rw[z4];omega⟩
 have lQ:Hid (Jn s w w4 B B (B+1) w.heap.size a b c d e f ca cb cc cd ce cf (stL s a b c d e f va ia ca cb cc cd ce cf cv ci) L (U pl nl cl) (UK (VA s) (L.take 0)) 0 (U (some (O (w.heap.size+1) 0)) 0 0)):=by simp only[Hid];rw[<- dr];exact bJ
 have HA:=hid yj;have gn:w.heap.size<B:=Q;have sZ:=hid eG;clear bJ KN KW TN TW yj jN aW kp O2 A2 b2 ac A1 O1 b1 z1 jB fH j4 eG z4;go_wp2;rw[HA.out];clear HA
 try simp only[dr]
 clear dr dR y1 y2 y3 y4 y5 y6;go_loopw [3,7,8,9] (λs3 s7 _ _ wr=>∃i:Nat,i<=nl/\s7=J i/\Hid (Jn s w wr B B (B+1) w.heap.size a b c d e f ca cb cc cd ce cf (stL s a b c d e f va ia ca cb cc cd ce cf cv ci) L (U pl nl cl) (UK (VA s) (L.take i)) i s3)) (λ_ s7 _ _ _=>nl-(intOf s7).toNat)
 .exact⟨0,Q,rfl,lQ⟩
 ·
  have⟨wa,dS⟩:=UL wr;subst dS;obtain⟨i,hi,rfl,HR⟩:=hrel;clear lQ;have⟨go,mo,co,qJ,ly,iD,vi⟩:=HR.out.own;subst qJ;by_cases hlt:i<nl
  .have i1:(i:Int)<(nl:Int):=Q
   have i0:(0:Int)<=(i:Int):=Q;obtain⟨gl,rfl⟩:=sZ.out Q;obtain⟨ev,jb⟩:∃x,L[i]? =some x:=⟨_,Ug (by have:=jL.out;omega)⟩;have hR:=nV ev (UH jb);have HT:Hid (UK (VA s) (L.take (i+1))=W9 (VA s) (UK (VA s) (L.take i)) ev):=jo5 jb;have yE:=hid jb;have⟨c0,c1,c2,c3,c4,c5⟩:=VO HR.out.live jb;have s7:=HR.out.sv.c 7 (u:=J s.cur) rfl;have NG:=hid ly;have xQ:mo<=1000:=by have h1:=jep (VA s) (L.take i);rw[List.length_take]at h1;omega
   have HC:Hid (∀wx,Jn s w wx B B (B+1) w.heap.size a b c d e f ca cb cc cd ce cf (stL s a b c d e f va ia ca cb cc cd ce cf cv ci) L (so gl nl cl) (UK (VA s) (L.take i)) i (so go mo co)->(∀zv tv zs ts,Zk wx B B s.Tz a b c ca cb cc zv tv zs ts->ts.length=zs.length->zs.length<=i->C 22 #[.pointer (some (O B 0)),ev.v] wx (vaH B B s.Tz a b c ca cb cc zv tv zs ev wx))/\(∀zv tv zs ts,Zk wx B (B+1) s.TE d e f cd ce cf zv tv zs ts->ts.length=zs.length->zs.length<=i->C 22 #[.pointer (some (O (B+1) 0)),ev.v] wx (vaH B (B+1) s.TE d e f cd ce cf zv tv zs ev wx))):=λwx h=>⟨λzv tv zs ts k1 k2 k3=>jd3 w B B s.Tz a b c ca cb cc zv tv zs ts ev wx HN.out h.TQ Q h.lo ok.Tz oG k1 k2 Q hR,λzv tv zs ts k1 k2 k3=>jd3 w B (B+1) s.TE d e f cd ce cf zv tv zs ts ev wx HW.out h.TQ Q h.lo ok.TE dC k1 k2 Q hR⟩
   have js:Hid (∀wx,Jn s w wx B B (B+1) w.heap.size a b c d e f ca cb cc cd ce cf (stL s a b c d e f va ia ca cb cc cd ce cf cv ci) L (so gl nl cl) (UK (VA s) (L.take i)) (i+1) (so go mo co)->wx.cell? (O gl (i*6))=some (J ev.id)):=λwx h=>(VO h.live yE.out).1
   clear jb hR ly nV;go_upto_region 9 with fail
   go_cut [40]from 28 to 39 (λMb wx=>∃(bo:Bool) (nq:Nat),Mb=Z bo/\wx=wa.drewN nq/\Hid (VA s ev=if bo=true then Vf s.TE ev else Vf s.Tz ev))
   case first=>
    by_cases h1:s.cur=0
    .have HM:Hid (VA s ev=Vf s.Tz ev):=jrq (.inl h1)
     rw[h1]at s7;clear h1;go_quiet (fail);go_wp2;go_meet;exact⟨false,nq,rfl,rfl,HM.out⟩
    have ET:(s.cur != 0)=true:=by simp[h1]
    by_cases h2:ev.id<s.cur
    .have HM:Hid (VA s ev=Vf s.Tz ev):=jrq (.inr h2)
     have tN:decide (s.cur<=ev.id)=false:=Z6;clear h1 h2;go_quiet (fail);go_wp2;go_meet;exact⟨false,nq,rfl,rfl,HM.out⟩
    .have HM:Hid (VA s ev=Vf s.TE ev):=jzg (λh=>h.elim h1 h2)
     have tN:decide (s.cur<=ev.id)=true:=Z6;clear h1 h2;go_quiet (fail);go_wp2;go_meet;exact⟨true,nq,rfl,rfl,HM.out⟩
   case rest=>
    obtain⟨bo,nq,rfl,rfl,xh⟩:=hcut;have uF:=HR.out.same (show Bw wa (wa.drewN nq)from⟨rfl,rfl,rfl,TP _,λ_ _=>rfl⟩);have d0:(wa.drewN nq).cell? (O gl (i*6))=some (J ev.id):=c0;have d1:(wa.drewN nq).cell? (O gl (i*6+1))=some (I ev.name):=c1;have d2:(wa.drewN nq).cell? (O gl (i*6+2))=some (I ev.TH):=c2;have d3:(wa.drewN nq).cell? (O gl (i*6+3))=some (J ev.Ty):=c3;have d4:(wa.drewN nq).cell? (O gl (i*6+4))=some (J ev.TM):=c4;have d5:(wa.drewN nq).cell? (O gl (i*6+5))=some (J ev.TL):=c5;have lq:=uF.ve4 Q Q ev (HC.out _ uF).1;have tY:=uF.ve5 Q Q ev (HC.out _ uF).2;clear uF HC c0 c1 c2 c3 c4 c5 s7;simp only[TD.v]at lq tY;generalize wa.drewN nq=wq at *;have⟨⟨M1,M2⟩,hM⟩:=TY (VA s ev);have HM:=Xp hM;rw[xh.out]at hM;clear xh;cases bo
    all_goals
     first
     |rw[if_neg Bool.false_ne_true]at hM;rw[hM]at lq;have hC:=lq
     |rw[if_pos rfl]at hM;rw[hM]at tY;have hC:=tY
     clear hM lq tY;go_wp2_with fail;refine hC.mono ?_;rintro q w5 ⟨rfl,eC⟩;have f0:=js.out w5 eC;have gr:=Xp eC;clear eC hC d0 d1 d2 d3 d4 d5;cases M2
     .have li:Hid (Jn s w w5 B B (B+1) w.heap.size a b c d e f ca cb cc cd ce cf (stL s a b c d e f va ia ca cb cc cd ce cf cv ci) L (so gl nl cl) (UK (VA s) (L.take (i+1))) (i+1) (so go mo co)):=by
       simp only[Hid];rw[HT.out,W9,HM.out,if_neg M];exact gr.out
      go_wp2;go_roundw
      .exact⟨i+1,Q,Z7,li⟩
      .simp[intOf];omega
     .have⟨g5,m5,k5,vq,fe,kE,uY⟩:=gr.out.own
      injection vq with h1 h2 h3
      injection h1 with h1
      injection h1 with h1
      subst h1 h2 h3;have ir:=je8 (UK (VA s) (L.take i)) ⟨M1,ev.id⟩ go mo co (w.heap.size+1) w5 fe kE uY xQ;have sV:=Xp kE;clear fe kE;go_wp2_with fail;refine ir.mono ?_;rintro q w6 ⟨g6,c6,rfl,mu,fV,hb6⟩;have te:Hid (Jn s w w6 B B (B+1) w.heap.size a b c d e f ca cb cc cd ce cf (stL s a b c d e f va ia ca cb cc cd ce cf cv ci) L (so gl nl cl) (UK (VA s) (L.take (i+1))) (i+1) (so g6 (mo+1) c6)):=by
       simp only[Hid];rw[HT.out,W9,HM.out,if_pos rfl];exact gr.out.below hb6 ⟨g6,mo+1,c6,rfl,U4 fV (Nat.le_trans Q gr.out.lo),by rw[ja9,sV.out],mu⟩
      clear fV hb6 ir;go_wp2;go_roundw
      .exact⟨i+1,Q,Z7,te⟩
      .simp[intOf];omega
  .obtain rfl:i=nl:=Q
   have HF:Hid (Zb wa w.heap.size (so go mo co) (UK (VA s) L)):=by
    rw[List.take_of_length_le (by rw[jL.out];exact TP _)]at ly;exact U4 ly Q
   have BP:=HR.out.TQ;clear ly;go_wp2;go_ret;exact⟨so go mo co,rfl,by rw[nE.out];exact HF.out,BP⟩
