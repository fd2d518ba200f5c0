import Derived.Test.YtpejeokacilebaaGreatDoorSXd
import Derived.Test.YtpejeokacilebaaGreatDoorTsTd
set_option maxRecDepth 100000
set_option maxHeartbeats 0
set_option linter.unusedSimpArgs false
open Go.RowKit
namespace Go.Proofs.YtpejeokacilebaaGreatDoor
theorem jmj{S S2:Nat->Prop}{w w1 w2:World}(h:Fr S w w1)(h2:Fr S2 w1 w2)(hs:∀b,b<w.heap.size->S2 b->S b):Fr S w w2:=
 ⟨h2.os.trans h.os,h2.tape.trans h.tape,h2.output.trans h.output,Nat.le_trans h.size h2.size,fun b hb hn=>(h2.block b (Nat.lt_of_lt_of_le hb h.size) (fun e=>hn (hs b hb e))).trans (h.block b hb hn)⟩
theorem jzt:∃i:TypeInfo,Tryz.prog.info? 9=some i/\i.zero=some (.string ⟨#[]⟩)/\i.size=1/\i.bytes=16:=⟨_,rfl,rfl,rfl,rfl⟩
theorem jzs:∃i:TypeInfo,Tryz.prog.info? 140=some i/\i.zero=some (.agg #[nS,iv 0])/\i.size=2/\i.bytes=32:=⟨_,rfl,rfl,rfl,rfl⟩
theorem jyl{w:World}{B g n c:Nat}{ts:List TOut}(h:w.ownsRow B 140 2 (so g n c) n (ts.map TOut.cs).flatten){j:Nat}{t:TOut}(hj:ts[j]? =some t)(hn:ts.length=n):w.cell? (ad g (j*2))=some (.slice t.a t.n t.c)/\w.cell? (ad g (j*2+1))=some (iv t.code):=by
 have hl:=(List.getElem?_eq_some_iff.1 hj).1
 have hr:(ts.map TOut.cs)[j]? =some t.cs:=by rw[lgm,hj];rfl
 have h0:=ja3 jkr (i:=j) (j:=0) hr rfl
 have h1:=ja3 jkr (i:=j) (j:=1) hr rfl
 exact⟨by rw[h.cellAt (j*2) (by omega)];exact h0,by rw[h.cellAt (j*2+1) (by omega)];exact h1⟩
structure NewZ(w0 w wx:World)(B p:Nat)(r:RelD)(a b c:Option Addr)(ca cb cc:Nat)(zv tv:Value)(zs:List ByteArray)(ts:List TOut)(z:ByteArray)(E:List Value)(n:Nat):Prop where
 ex:∃g1 aC,Zk wx B p r a b c ca cb cc (so g1 (n+1) aC) tv (zs++[z]) ts/\(zv.ownBlock=some g1\/w.heap.size<=g1)
 ev:Zh wx w.heap.size E
 fr:Fr (InC p zv tv) w wx
 bel:Bw w0 wx
 lo:B<=wx.heap.size
structure DoneC(w wx:World)(B p:Nat)(r:RelD)(a b c:Option Addr)(ca cb cc:Nat)(zv tv:Value)(zs:List ByteArray)(z:ByteArray)(E:List Value)(j:Nat):Prop where
 ex:∃lL gt nt ct l8 kZ t,Zk wx B p r a b c ca cb cc lL (so gt nt ct) l8 kZ/\l8[j]? =some z/\kZ[j]? =some t/\kZ.length=nt/\l8.length=nt/\nt<=zs.length+1/\∀g,InC p lL (so gt nt ct) g->InC p zv tv g\/w.heap.size<=g
 ev:Zh wx w.heap.size E
 fr:Fr (InC p zv tv) w wx
structure EvR(e:EventD):Prop where
 zone:e.zone.size<=8000
 w1: -62135596800<=e.wall
 w2:e.wall<=253402300799
 g1:0<=e.gap
 g2:e.gap<=2
 f1:0<=e.fold
 f2:e.fold<=2
theorem jd3(w0:World)(B p:Nat)(r:RelD)(a b c:Option Addr)(ca cb cc:Nat)(zv tv:Value)(zs:List ByteArray)(ts:List TOut)(ev:EventD)(w:World)(hv:Zd w0 (.agg #[.slice a r.rules.length ca,.slice b r.zones.length cb,.slice c r.links.length cc]) r)(bel:Bw w0 w)(ag:w0.heap.size<=B)(eM:B<=w.heap.size)(ok:Jk r)(hr:relB r=true)(hA:Zk w B p r a b c ca cb cc zv tv zs ts)(hl:ts.length=zs.length)(hn:zs.length<=1000)(jb:EvR ev):
  Cl 37 #[.pointer (some (ad p 0)),ev.v] w (InstP B p r a b c ca cb cc zv tv zs ev w):=by
 obtain⟨id,name,zone,wall,gap,fold⟩:=ev
 obtain⟨k1,k2,k3,k4,k5,k6,k7⟩:=jb
 simp only[EventD.v]at *
 obtain⟨pz,cz,rfl,vu⟩:=jkx hA.zo
 obtain⟨pt,ct,rfl,kJ⟩:=jkx hA.to_
 rw[hl]at kJ
 have Gs:=hA.zo
 have CA:=hA.to_
 rw[hl]at CA hA ⊢
 obtain⟨N,hN⟩:=qeb zs.length
 rw[hN]at hl hn vu kJ Gs CA hA ⊢
 have HN:=hid hN
 have HL:=hid hl
 clear hN hl
 have b0:Bw w (w.alloc (.cells #[iv id,.string name,.string zone,iv wall,iv gap,iv fold] 54)):=qal _ _
 have E0:Zh (w.alloc (.cells #[iv id,.string name,.string zone,iv wall,iv gap,iv fold] 54)) w.heap.size [iv id,.string name,.string zone,iv wall,iv gap,iv fold]:=Zh.new w [iv id,.string name,.string zone,iv wall,iv gap,iv fold] 54
 have eK:=hA.below b0
 have vt:=jkq hA.typ
 have HA:=hid hA
 have HV:=hid hv
 have sT:=hid bel
 have Es:=hid vu
 have oR:=hid kJ
 clear hA hv bel vu kJ Gs CA
 unfold Cl;go_in
 go_wp2
 have dP:(w.alloc (.cells #[iv id,.string name,.string zone,iv wall,iv gap,iv fold] 54)).heap.size=w.heap.size+1:=by simp
 generalize (w.alloc (.cells #[iv id,.string name,.string zone,iv wall,iv gap,iv fold] 54))=wA at *
 have xq:=hid dP
 clear dP
 go_loopw [6,7] (fun s6 s7 wr=>∃i:Nat,i<=N/\s7=iv i/\s6=iv (jet zs zone i)/\Bw wA wr) (fun _ s7 _=>N-(intOf s7).toNat)
 case atStart=>exact⟨0,by omega,rfl,rfl,brf _ _⟩
 case round=>
  obtain⟨wa,dS⟩:=qea wr
  subst dS
  obtain⟨i,hi,rfl,rfl,aK⟩:=hrel
  have fR:=eK.below aK
  have Er:=E0.below aK
  have p3:=fR.v.c 3 (u:=(.slice pz N cz)) rfl
  have e2:=Er.c 2 (u:=.string zone) rfl
  by_cases hlt:i<N
  ·have i1:(i:Int)<(N:Int):=by omega
   have i0:(0:Int)<=(i:Int):=by omega
   obtain⟨y,hy⟩:∃y,zs[i]? =some y:=⟨_,lgg (by have:=HN.out;omega)⟩
   obtain⟨gz,rfl⟩:=Es.out (by omega)
   have CQ:=fR.zo
   rw[HN.out]at CQ
   have y0:wa.cell? (ad gz i)=some (.string y):=by rw[CQ.cellAt i (by omega),lgm,hy];rfl
   have xd:=hid aK
   have HY:=hid hy
   clear hy CQ fR Er aK eK E0
   cases hb:(y.toList==zone.toList)
   ·have HK:Hid (jet zs zone (i+1)=jet zs zone i):=jr0 HY.out hb
    generalize jet zs zone i=k0 at *
    go_wp2_with fail
    go_quiet (fail)
    go_wp2
    go_roundw
    case rel=>exact⟨i+1,by omega,by go_num,by rw[HK.out],xd.out.trans (⟨rfl,rfl,rfl,nlr _,fun _ _=>rfl⟩)⟩
    case measure=>simp[intOf];omega
   ·have HK:Hid (jet zs zone (i+1)=i):=job HY.out hb
    generalize jet zs zone i=k0 at *
    go_wp2_with fail
    go_quiet (fail)
    go_wp2
    go_roundw
    case rel=>exact⟨i+1,by omega,by go_num,by rw[HK.out],xd.out.trans (⟨rfl,rfl,rfl,nlr _,fun _ _=>rfl⟩)⟩
    case measure=>simp[intOf];omega
  ·obtain rfl:i=N:=by omega
   have f9:Bw w wa:=b0.trans (aK.mono (by have:=xq.out;omega))
   have th:=hid f9
   have oP:=hid fR
   have yF:=hid Er
   have Gg:p<wa.heap.size:=jkq fR.typ
   have uS:w.heap.size<wa.heap.size:=qbl e2
   have Jv:B<=wa.heap.size:=Nat.le_trans eM f9.size
   have Pe:=vt
   have lc:=hid e2
   clear f9 aK fR Er eK E0 b0 vt e2
   go_upto_if 30 with fail
   go_cut [6]from 29 to 62 (fun s6 wx=>∃j:Nat,s6=iv j/\DoneC w wx B p r a b c ca cb cc (.slice pz i cz) (.slice pt i ct) zs zone [iv id,.string name,.string zone,iv wall,iv gap,iv fold] j)
   case first=>
    rcases jl9 zs zone i with h|⟨j,h,hj⟩
    ·rw[h]
     clear h
     obtain⟨is,Ka,dP,bU,dR⟩:=jzt
     obtain⟨it,sD,KH,KI,eH⟩:=jzs
     have ba:∀o,Bw wa (wa.drew.alloc o):=fun o=>(show Bw wa wa.drew from jab wa).alloc (nlr _) o
     have FK:wa.ownsRow B 9 1 (.slice pz i cz) i (zs.map Value.string):=by have:=oP.out.zo;rw[HN.out]at this;exact this
     have GK:=oP.out.v.f 3 (u:=.slice pz i cz) rfl
     have e2:=lc.out
     have az:some p≠(Value.slice pz i cz).ownBlock:=jgv oP.out.zo oP.out.typ (by decide)
     have ov:some w.heap.size≠(Value.slice pz i cz).ownBlock:=fun e=>by have:=(World.ownsRow.lt HA.out.zo _ e.symm).2;omega
     go_upto_region 9 with fail
     go_cut []from 36 to 46 (fun wx=>NewZ w0 w wx B p r a b c ca cb cc (.slice pz i cz) (.slice pt i ct) zs ts zone [iv id,.string name,.string zone,iv wall,iv gap,iv fold] i)
     case first=>
      go_region_law (refine step_append_lies _ (by rfl) (.tmp 40) (.tmp 43) 74 (by rfl) B 9 is (.string ⟨#[]⟩) 1 16 Tryz.underlying74 Ka dP bU dR rfl (by omega) (.slice pz i cz) i (zs.map Value.string) (by rfl) (woa (w:=wa.drew) FK _) (ad wa.heap.size 0) 1 1 [.string zone] (by rfl) rfl (jah _ _ _) (by intro u hu;simp at hu;subst hu;rfl) (by omega) (by unfold maxLen;omega) (by omega) (by simp;omega) _ rfl ?_;intro g1 aC w2 av af bE hlt1;have r1:=af.cell (a:=(ad p 3)) (jaa (ba _) p3) az;have r2:=(af.frozen_far (ad p 3) (by simp;omega) az).trans (((jaf (ba _)).2 _ _ Gg).trans GK))
      all_goals
       have h3:=(oP.out.below (ba _)).pushZ (by rw[HL.out,HN.out]) af (by rw[HN.out];exact av)
       have f1:Fr (InC p (.slice pz i cz) (.slice pt i ct)) w (wa.drew.alloc (.cells #[.string zone] 9)):=Fr.of_below (th.out.trans ((ba _).mono th.out.size))
       have f2:=jmj f1 h3.2 (fun _ _ h=>h)
       have HZ:Hid (NewZ w0 w (w2.setCell (ad p 3) (so g1 (i+1) aC)) B p r a b c ca cb cc (.slice pz i cz) (.slice pt i ct) zs ts zone [iv id,.string name,.string zone,iv wall,iv gap,iv fold] i):=by
        refine⟨⟨g1,aC,h3.1,bE.imp_right fun e=>?_⟩,?_,f2,?_,?_⟩
        ·rw[e];exact Nat.le_trans th.out.size (ba (.cells #[.string zone] 9)).size
        ·exact((yF.out.below (ba _)).fr (Fr.of_grown af) (fun e=>ov e.symm)).other (by omega) _
        ·exact sT.out.trans (f2.below (fun g hg=>Nat.le_trans ag (HA.out.low hg)) sT.out.size)
        ·exact Nat.le_trans eM f2.size
       clear h3 f1 f2 av af bE hlt1 r1 r2
       go_wp2
       go_meet
       exact HZ.out
     case rest=>
      obtain⟨w3,gm⟩:=qea wc
      subst gm
      obtain⟨g1,aC,kg,cQ⟩:=hcut.ex
      have E3:=hcut.ev
      have xe:=hid hcut.fr
      have ar:=hcut.bel
      have jg:=hcut.lo
      clear hcut
      have z0:=kg.v.c 0 (u:=.slice a r.rules.length ca) rfl
      have z1:=kg.v.c 1 (u:=.slice b r.zones.length cb) rfl
      have z2:=kg.v.c 2 (u:=.slice c r.links.length cc) rfl
      have z4:=kg.v.c 4 (u:=.slice pt i ct) rfl
      have NE:=kg.v.f 4 (u:=.slice pt i ct) rfl
      have y2:=E3.c 2 (u:=.string zone) rfl
      have hC:=jsy tabC r (.agg #[.slice a r.rules.length ca,.slice b r.zones.length cb,.slice c r.links.length cc]) zone w3.drew (HV.out.below (ar.trans ((jab w3).mono ar.size))) ok.sm ok.on k1 hr
      have Hd:=hid kg
      have yD:=hid E3
      have Eg:=hid cQ
      have eD:w3.ownsRow B 140 2 (.slice pt i ct) i (ts.map TOut.cs).flatten:=by have:=kg.to_;rw[HL.out]at this;exact this
      have mG:some p≠(Value.slice pt i ct).ownBlock:=jgv kg.to_ kg.typ (by decide)
      have Gf:p<w3.heap.size:=jkq kg.typ
      have d0:w3.drew.cell? (ad p 0)=some (.slice a r.rules.length ca):=z0
      have d1:w3.drew.cell? (ad p 1)=some (.slice b r.zones.length cb):=z1
      have d2:w3.drew.cell? (ad p 2)=some (.slice c r.links.length cc):=z2
      have d4:w3.drew.cell? (ad p 4)=some (.slice pt i ct):=z4
      have dy:w3.drew.cell? (ad w.heap.size 2)=some (.string zone):=y2
      have Gh:p≠w.heap.size:=by omega
      clear kg E3 cQ ar p3 e2 GK FK ba az ov
      go_wp2_with fail
      go_region_law (first|(go_simp;go_at_call 70;refine hC.mono ?_;rintro q w7 ff;obtain⟨v7,yg,cj,ay⟩:=ff.ex;obtain⟨a7,m7,d7,rfl⟩:=jad cj;obtain⟨k9,G1⟩:=qeb ((tabD r zone).1);rw[G1]at yg;subst yg;clear ff;have m0:=jaa ay d0;have m1:=jaa ay d1;have m2:=jaa ay d2;have m4:=jaa ay d4;have my:=jaa ay dy;have Lh:=((jaf ay).2 _ _ Gf).trans NE;have mj:=jac eD (show Bw w3 w7 from(jab w3).trans (ay.mono (nlr _)));have f8:w3.heap.size<=w7.heap.size:=ay.size;have Cu:p<w7.heap.size:=Nat.lt_of_lt_of_le Gf f8;have nM:=qal w7 (.cells #[.slice a7 m7 d7,iv k9] 140);have PB:=jaa nM m4)|(refine step_append_lies _ (by rfl) (.tmp 51) (.tmp 59) 92 (by rfl) B 140 it (.agg #[nS,iv 0]) 2 32 Tryz.underlying92 sD KH KI eH rfl (by omega) (.slice pt i ct) i (ts.map TOut.cs).flatten (by rfl) (woa (w:=w7) mj _) (ad w7.heap.size 0) 1 1 [.slice a7 m7 d7,iv k9] (by rfl) rfl (jah _ _ _) (by intro u hu;simp at hu;rcases hu with rfl|rfl<;>rfl) (by omega) (by unfold maxLen;omega) (by omega) (by simp;omega) _ rfl ?_;intro g2 bL w8 aw af bE hlt2;have s1:=af.cell (a:=(ad p 4)) (jaa nM m4) mG;have s2:=(af.frozen_far (ad p 4) (by simp;omega) mG).trans (((jaf nM).2 _ _ Cu).trans Lh)))
      all_goals
       have yk:Bw w3 w7:=(jab w3).trans (ay.mono (nlr _))
       have EW:=(Hd.out.below yk).below nM
       have F8:Jg w7 ⟨a7,m7,d7,k9⟩ (tabD r zone):=by have h:=ju2 (x:=tabD r zone) cj;rw[G1]at h;exact h
       have h3:=EW.pushT (t:=⟨a7,m7,d7,k9⟩) (by rw[HL.out,HN.out]) (F8.below nM) af (by rw[HL.out];exact aw)
       have f3:=jmj (jmj xe.out (Fr.of_below (S:=fun _=>False) (qtr yk nM)) (fun _ _ h=>h.elim)) h3.2 (fun g hg h=>by
        rcases h with h|h|h
        ·exact .inl h
        ·injection h with h
         have h:g1=g:=h
         subst h
         rcases Eg.out with h2|h2
         ·exact .inr (.inl h2)
         ·omega
        ·exact .inr (.inr h))
       have HD:Hid (DoneC w (w8.setCell (ad p 4) (so g2 (i+1) bL)) B p r a b c ca cb cc (.slice pz i cz) (.slice pt i ct) zs zone [iv id,.string name,.string zone,iv wall,iv gap,iv fold] i):=by
        refine⟨⟨so g1 (i+1) aC,g2,i+1,bL,zs++[zone],ts++[⟨a7,m7,d7,k9⟩],⟨a7,m7,d7,k9⟩,h3.1,?_,?_,by rw[lla,HL.out];rfl,by rw[lla,HN.out];rfl,by rw[HN.out];omega,fun g hg=>?_⟩,?_,f3⟩
        ·rw[List.getElem?_append_right (by rw[HN.out];omega),HN.out,Nat.sub_self];rfl
        ·rw[List.getElem?_append_right (by rw[HL.out];omega),HL.out,Nat.sub_self];rfl
        ·rcases hg with hg|hg|hg
         ·exact .inl (.inl hg)
         ·injection hg with hg
          have hg:g1=g:=hg
          subst hg
          exact Eg.out.imp (fun h=>.inr (.inl h)) (fun h=>h)
         ·injection hg with hg
          have hg:g2=g:=hg
          subst hg
          refine bE.imp (fun h=>.inr (.inr h)) (fun h=>?_)
          rw[h]
          exact Nat.le_trans (Nat.le_trans xe.out.size f8) nM.size
        ·refine Zh.other (Zh.fr ((yD.out.below yk).below nM) (Fr.of_grown af) (fun e=>?_)) (by omega) _
         have:=(World.ownsRow.lt HA.out.to_ _ e).2
         omega
       clear h3 f3 EW F8 yk aw af bE hlt2 s1 s2 cj ay mj
       go_wp2
       go_meet
       exact⟨i,rfl,HD.out⟩
    ·rw[h]
     clear h
     have Kc:j<i:=by have h1:=(List.getElem?_eq_some_iff.1 hj).1;have:=HN.out;omega
     obtain⟨t,sK⟩:∃t,ts[j]? =some t:=⟨_,lgg (by have:=HL.out;omega)⟩
     obtain⟨gt,rfl⟩:=oR.out (by omega)
     have j2:¬(j:Int)<0:=by omega
     have HD:Hid (DoneC w wa B p r a b c ca cb cc (.slice pz i cz) (so gt i ct) zs zone [iv id,.string name,.string zone,iv wall,iv gap,iv fold] j):=⟨⟨_,gt,i,ct,zs,ts,t,oP.out,hj,sK,HL.out,HN.out,by have:=HN.out;omega,fun g hg=>.inl hg⟩,yF.out,Fr.of_below th.out⟩
     clear hj sK
     go_wp2
     go_meet
     exact⟨j,rfl,HD.out⟩
   case rest=>
    obtain⟨j,rfl,hcut⟩:=hcut
    obtain⟨wt,KX⟩:=qea wc
    subst KX
    obtain⟨lL,gt,nt,zf,l8,kZ,⟨ta,tn,tc,tk⟩,cY,hj,sK,fG,aF,gF,hin⟩:=hcut.ex
    have Er:=hcut.ev
    have yG:=hid hcut.fr
    clear hcut
    have Kc:j<nt:=by have h1:=(List.getElem?_eq_some_iff.1 hj).1;omega
    have CB:=cY.to_
    rw[fG]at CB
    obtain⟨r0,r1⟩:=jyl CB sK fG
    dsimp only at r0 r1
    have nJ:Hid (Jg wt ⟨ta,tn,tc,tk⟩ (tabD r zone)):=cY.tab j zone _ hj sK
    have q4:=cY.v.c 4 (u:=so gt nt zf) rfl
    have e3:=Er.c 3 (u:=iv wall) rfl
    have e4:=Er.c 4 (u:=iv gap) rfl
    have e5:=Er.c 5 (u:=iv fold) rfl
    have j1:(j:Int)<(nt:Int):=by omega
    have j0:(0:Int)<=(j:Int):=by omega
    have td:Hid (∀w' n7 b7,Bw wt w'->momR r ⟨id,name,zone,wall,gap,fold⟩=(n7,b7)->InstP B p r a b c ca cb cc (.slice pz i cz) (.slice pt i ct) zs ⟨id,name,zone,wall,gap,fold⟩ w (.returned (.tuple #[iv n7,.bool b7])) w'):=fun w' n7 b7 hb hm=>by
     exact⟨by rw[hm],⟨lL,so gt nt zf,l8,kZ,cY.below hb,by omega,by omega,hin⟩,jmj yG.out (Fr.of_below (S:=fun _=>False) hb) (fun _ _ h=>h.elim)⟩
    clear cY Er CB hj sK hin fG aF gF p3 Gg uS oP yF th lc Es oR HA
    by_cases hk:tk=0
    ·subst hk
     have hd:(tabD r zone).1=0:=nJ.out.code.symm
     have oz:=(jm1 hd).2.2.2.right
     have HM:Hid (momR r ⟨id,name,zone,wall,gap,fold⟩=((resR (tabD r zone).2 wall gap fold).1,decide ((resR (tabD r zone).2 wall gap fold).2=0))):=by
      simp only[Hid]
      unfold momR
      rw[jrp hd,jri oz (jma k2 k3) (jma k4 k5) (jma k6 k7)]
     have fH:=nJ.out.n
     have iQ:=nJ.out.seq
     dsimp only at fH iQ
     obtain⟨l,i9⟩:=qeb ((tabD r zone).2)
     rw[i9]at oz HM fH iQ
     subst fH
     clear i9 hd
     have hR:=fun W h=>jh6 l (.agg #[.slice ta l.length tc]) wall gap fold W h (j0x oz) k2 k3 k4 k5 k6 k7
     have bA:=jab wt
     have bB:Bw wt (wt.alloc (.cells #[iv 0,iv 0] 143)).drew:=(qal wt _).trans ((jab _).mono (by simp))
     have TA:Zy wt.drew (.agg #[.slice ta l.length tc]) l:=⟨ta,tc,rfl,iQ.below bA⟩
     have TB:Zy (wt.alloc (.cells #[iv 0,iv 0] 143)).drew (.agg #[.slice ta l.length tc]) l:=⟨ta,tc,rfl,iQ.below bB⟩
     obtain⟨⟨n7,c7⟩,sG⟩:=qeb (resR l wall gap fold)
     rw[sG]at hR HM
     simp only[outV]at hR
     clear sG iQ oz
     have D8:=jaa bA q4
     have D9:=jaa bB q4
     have:=World.new_ne wt _ q4
     have Db:=jaa bA r0
     have Dc:=jaa bB r0
     have:=World.new_ne wt _ r0
     have zO:=jaa bA e3
     have zP:=jaa bB e3
     have:=World.new_ne wt _ e3
     have zR:=jaa bA e4
     have zS:=jaa bB e4
     have:=World.new_ne wt _ e4
     have zU:=jaa bA e5
     have zV:=jaa bB e5
     have:=World.new_ne wt _ e5
     obtain⟨yt,yu,Af,Ag⟩:(fun z:World=>z.cell? (ad wt.heap.size 0)=some (iv 0)/\z.cell? (ad wt.heap.size 1)=some (iv 0)/\z.frozen? (ad wt.heap.size 0)=false/\z.frozen? (ad wt.heap.size 1)=false) ((wt.alloc (.cells #[iv 0,iv 0] 143)).drew):=by simp[go_sem]
     go_wp2_with fail
     go_region_held3 (fun w'=>w'.cell? (ad p 4)=some (so gt (nt) zf)/\w'.cell? (ad gt (j*2))=some (.slice ta l.length tc)/\w'.cell? (ad w.heap.size 3)=some (iv wall)/\w'.cell? (ad w.heap.size 4)=some (iv gap)/\w'.cell? (ad w.heap.size 5)=some (iv fold)) (go_keep) (first|(go_at_call 71;refine(hR _ TA).mono ?_;rintro q w7 ⟨rfl,ay⟩;have dz:=qtr bA ay;have D7:=jaa ay D8;have Da:=jaa ay Db;have zN:=jaa ay zO;have zQ:=jaa ay zR;have zT:=jaa ay zU)|(go_at_call 71;refine(hR _ TB).mono ?_;rintro q w7 ⟨rfl,ay⟩;have dz:=qtr bB ay;have D7:=jaa ay D9;have Da:=jaa ay Dc;have zN:=jaa ay zP;have zQ:=jaa ay zS;have zT:=jaa ay zV;have wI:=jaa ay yt;have wK:=jaa ay yu;have ka:=qfz ay yt Af;have kd:=qfz ay yu Ag))
     ·skip
      have B9:Bw wt (w7.alloc (.cells #[iv n7,iv c7] 143)):=dz.alloc dz.size _
      obtain⟨t0,t1⟩:(fun z:World=>z.cell? (ad w7.heap.size 0)=some (iv n7)/\z.cell? (ad w7.heap.size 1)=some (iv c7)) (w7.alloc (.cells #[iv n7,iv c7] 143)):=by simp[go_sem]
      have l9:=hid B9
      clear B9 dz ay
      clear hR TA TB D7 D8 D9 Da Db Dc zN zO zP zQ zR zS zT zU zV yt yu Af Ag bA bB
      generalize (w7.alloc (.cells #[iv n7,iv c7] 143))=w9 at *
      by_cases hc:c7=0
      ·subst hc
       go_wp2_with fail
       go_quiet (fail)
       go_wp2
       go_ret2
       exact td.out _ _ _ (l9.out.trans (⟨rfl,rfl,rfl,nlr _,fun _ _=>rfl⟩)) (by rw[HM.out];rfl)
      ·have cU:(c7==0)=false:=by simp[hc]
       go_wp2_with fail
       go_quiet (fail)
       go_wp2
       go_ret2
       exact td.out _ _ _ (l9.out.trans (⟨rfl,rfl,rfl,nlr _,fun _ _=>rfl⟩)) (by rw[HM.out,dfe hc])
     ·skip
      have B9:Bw wt ((w7.setCell (ad wt.heap.size 0) (iv n7)).setCell (ad wt.heap.size 1) (iv c7)):=(dz.setCell (nlr _) _).setCell (nlr _) _
      obtain⟨t0,t1⟩:=jav (v0:=iv n7) (v1:=iv c7) wI wK
      have l9:=hid B9
      clear B9 dz ay
      clear hR TA TB D7 D8 D9 Da Db Dc zN zO zP zQ zR zS zT zU zV yt yu Af Ag bA bB wI wK ka kd
      generalize ((w7.setCell (ad wt.heap.size 0) (iv n7)).setCell (ad wt.heap.size 1) (iv c7))=w9 at *
      by_cases hc:c7=0
      ·subst hc
       go_wp2_with fail
       go_quiet (fail)
       go_wp2
       go_ret2
       exact td.out _ _ _ (l9.out.trans (⟨rfl,rfl,rfl,nlr _,fun _ _=>rfl⟩)) (by rw[HM.out];rfl)
      ·have cU:(c7==0)=false:=by simp[hc]
       go_wp2_with fail
       go_quiet (fail)
       go_wp2
       go_ret2
       exact td.out _ _ _ (l9.out.trans (⟨rfl,rfl,rfl,nlr _,fun _ _=>rfl⟩)) (by rw[HM.out,dfe hc])
    ·have fy:(tk==0)=false:=by simp[hk]
     go_wp2
     go_ret2
     exact td.out _ _ _ (brf _ _) (by unfold momR;rw[jv3 (by rw[<- nJ.out.code];exact hk)])
structure Jn(s:StoreD)(w wr:World)(B pn pw h:Nat)(a b c d e f:Option Addr)(ca cb cc cd ce cf:Nat)(V:List Value)(L:List EventD)(lv:Value)(X:List EntryD)(i:Nat)(out:Value):Prop where
 ex:∃nA nr nv oM nB nu ny oN,Zk wr B pn s.now a b c ca cb cc nA nr nv oM/\oM.length=nv.length/\nv.length<=i/\Zk wr B pw s.was d e f cd ce cf nB nu ny oN/\oN.length=ny.length/\ny.length<=i/\∀g,InC pn nA nr g->¬InC pw nB nu g
 own:∃g m k,out=so g m k/\Zb wr (h+1) out X/\X.length=m/\m<=k
 live:Jb wr (h+1) lv L
 sv:Zh wr h V
 bel:Bw w wr
 lo:B<=wr.heap.size
theorem Jn.below{s:StoreD}{w wr lJ:World}{B pn pw h:Nat}{a b c d e f:Option Addr}{ca cb cc cd ce cf:Nat}{V:List Value}{L:List EventD}{lv:Value}{X X2:List EntryD}{i:Nat}{out kQ:Value}(hR:Jn s w wr B pn pw h a b c d e f ca cb cc cd ce cf V L lv X i out)(hb:Bw wr lJ)(ho:∃g m k,kQ=so g m k/\Zb lJ (h+1) kQ X2/\X2.length=m/\m<=k):Jn s w lJ B pn pw h a b c d e f ca cb cc cd ce cf V L lv X2 i kQ:=by
 obtain⟨nA,nr,nv,oM,nB,nu,ny,oN,h1,h2,h3,h4,h5,h6,h7⟩:=hR.ex
 exact⟨⟨nA,nr,nv,oM,nB,nu,ny,oN,h1.below hb,h2,h3,h4.below hb,h5,h6,h7⟩,ho,jac hR.live hb,hR.sv.below hb,hR.bel.trans (hb.mono hR.bel.size),Nat.le_trans hR.lo hb.size⟩
theorem Jn.same{s:StoreD}{w wr lJ:World}{B pn pw h:Nat}{a b c d e f:Option Addr}{ca cb cc cd ce cf:Nat}{V:List Value}{L:List EventD}{lv:Value}{X:List EntryD}{i:Nat}{out:Value}(hR:Jn s w wr B pn pw h a b c d e f ca cb cc cd ce cf V L lv X i out)(hb:Bw wr lJ):Jn s w lJ B pn pw h a b c d e f ca cb cc cd ce cf V L lv X i out:=by
 obtain⟨g,m,k,h1,h2,h3⟩:=hR.own
 exact hR.below hb ⟨g,m,k,h1,jac h2 hb,h3⟩
theorem Jn.ask_n {s:StoreD} {w wr:World} {B pn pw h:Nat} {a b c d e f:Option Addr} {ca cb cc cd ce cf:Nat} {V:List Value} {L:List EventD} {lv:Value} {X:List EntryD} {i:Nat} {out:Value} (hR:Jn s w wr B pn pw h a b c d e f ca cb cc cd ce cf V L lv X i out) (hh:h<B) (gn:w.heap.size<=B) (ev:EventD)
  (hC:∀zv tv zs ts,Zk wr B pn s.now a b c ca cb cc zv tv zs ts->ts.length=zs.length->zs.length<=i->Cl 37 #[.pointer (some (ad pn 0)),ev.v] wr (InstP B pn s.now a b c ca cb cc zv tv zs ev wr)):
  Cl 37 #[.pointer (some (ad pn 0)),ev.v] wr fun q w2=>q=.returned (.tuple #[iv (momR s.now ev).1,.bool (momR s.now ev).2])/\Jn s w w2 B pn pw h a b c d e f ca cb cc cd ce cf V L lv X (i+1) out:=by
 obtain⟨nA,nr,nv,oM,nB,nu,ny,oN,h1,h2,h3,h4,h5,h6,h7⟩:=hR.ex
 refine(hC nA nr nv oM h1 h2 h3).mono fun q w2 hP=>⟨hP.ex,?_⟩
 have hf:=hP.fr
 obtain⟨lL,sC,l8,kZ,k1,k2,k3,k4⟩:=hP.cache
 obtain⟨g,m,k,o1,o2,o3⟩:=hR.own
 have fv:∀g,(∃cs,wr.heap[g]? =some (.cells cs 167 (0,0)))->¬InC pn nA nr g:=fun g hg=>h1.not hg (by decide) (by decide) (by decide)
 have qq:=jcm o2 hf (fun g hg=>h1.not (jby o2 hg) (by decide) (by decide) (by decide))
 have qh:=jcm hR.live hf (fun g hg=>h1.not (jby hR.live hg) (by decide) (by decide) (by decide))
 have rW:=hR.sv.fr hf (fun e=>by have:=h1.low e;omega)
 have df:Bw w w2:=hR.bel.trans (hf.below (fun g hg=>Nat.le_trans gn (h1.low hg)) hR.bel.size)
 have hO:=h4.fr hf (fun g hg hx=>h7 g hx hg) fv
 refine⟨⟨lL,sC,l8,kZ,nB,nu,ny,oN,k1,k2,by omega,hO,h5,by omega,fun g hg hx=>?_⟩,⟨g,m,k,o1,qq,o3⟩,qh,rW,df,Nat.le_trans hR.lo hf.size⟩
 rcases k4 g hg with hg|hg
 ·exact h7 g hg hx
 ·obtain⟨t,ht,_⟩:=h4.kind hx
  have:=jkq ht
  omega
theorem Jn.ask_w {s:StoreD} {w wr:World} {B pn pw h:Nat} {a b c d e f:Option Addr} {ca cb cc cd ce cf:Nat} {V:List Value} {L:List EventD} {lv:Value} {X:List EntryD} {i:Nat} {out:Value} (hR:Jn s w wr B pn pw h a b c d e f ca cb cc cd ce cf V L lv X i out) (hh:h<B) (gn:w.heap.size<=B) (ev:EventD)
  (hC:∀zv tv zs ts,Zk wr B pw s.was d e f cd ce cf zv tv zs ts->ts.length=zs.length->zs.length<=i->Cl 37 #[.pointer (some (ad pw 0)),ev.v] wr (InstP B pw s.was d e f cd ce cf zv tv zs ev wr)):
  Cl 37 #[.pointer (some (ad pw 0)),ev.v] wr fun q w2=>q=.returned (.tuple #[iv (momR s.was ev).1,.bool (momR s.was ev).2])/\Jn s w w2 B pn pw h a b c d e f ca cb cc cd ce cf V L lv X (i+1) out:=by
 obtain⟨nA,nr,nv,oM,nB,nu,ny,oN,h1,h2,h3,h4,h5,h6,h7⟩:=hR.ex
 refine(hC nB nu ny oN h4 h5 h6).mono fun q w2 hP=>⟨hP.ex,?_⟩
 have hf:=hP.fr
 obtain⟨lL,sC,l8,kZ,k1,k2,k3,k4⟩:=hP.cache
 obtain⟨g,m,k,o1,o2,o3⟩:=hR.own
 have fv:∀g,(∃cs,wr.heap[g]? =some (.cells cs 167 (0,0)))->¬InC pw nB nu g:=fun g hg=>h4.not hg (by decide) (by decide) (by decide)
 have qq:=jcm o2 hf (fun g hg=>h4.not (jby o2 hg) (by decide) (by decide) (by decide))
 have qh:=jcm hR.live hf (fun g hg=>h4.not (jby hR.live hg) (by decide) (by decide) (by decide))
 have rW:=hR.sv.fr hf (fun e=>by have:=h4.low e;omega)
 have df:Bw w w2:=hR.bel.trans (hf.below (fun g hg=>Nat.le_trans gn (h4.low hg)) hR.bel.size)
 have hO:=h1.fr hf (fun g hg hx=>h7 g hg hx) fv
 refine⟨⟨nA,nr,nv,oM,lL,sC,l8,kZ,hO,h2,by omega,k1,k2,by omega,fun g hg hx=>?_⟩,⟨g,m,k,o1,qq,o3⟩,qh,rW,df,Nat.le_trans hR.lo hf.size⟩
 rcases k4 g hx with hx|hx
 ·exact h7 g hg hx
 ·obtain⟨t,ht,_⟩:=h1.kind hg
  have:=jkq ht
  omega
theorem jrq{s:StoreD}{e:EventD}(h:s.cur=0\/e.id<s.cur):momS s e=momR s.now e:=if_pos h
theorem jzg{s:StoreD}{e:EventD}(h:¬(s.cur=0\/e.id<s.cur)):momS s e=momR s.was e:=if_neg h
theorem jwr{p g:Nat}(h:InC p nS nS g):g=p:=by
 rcases h with h|h|h
 ·exact h
 ·cases h
 ·cases h
abbrev stL(s:StoreD)(a b c d e f va ia:Option Addr)(ca cb cc cd ce cf cv ci:Nat):List Value:=
 [iv s.tx,.slice a s.now.rules.length ca,.slice b s.now.zones.length cb,.slice c s.now.links.length cc,.slice d s.was.rules.length cd,.slice e s.was.zones.length ce,.slice f s.was.links.length cf,iv s.cur,.slice va s.vs.length cv,.slice ia s.ix.length ci]
theorem jsp(w:World)(L M:List Value):∃x,(w.alloc (.cells L.toArray 94)).alloc (.cells M.toArray 94)=x/\Bw w x/\Zh x w.heap.size L/\Zh x (w.heap.size+1) M/\(∃cs,x.heap[w.heap.size]? =some (.cells cs 94 (0,0)))/\(∃cs,x.heap[w.heap.size+1]? =some (.cells cs 94 (0,0)))/\x.heap.size=w.heap.size+1+1:=by
 obtain⟨e,z,b⟩:=j06 w (.cells L.toArray 94) (.cells M.toArray 94)
 have h:=Zh.new (w.alloc (.cells L.toArray 94)) M 94
 have g:=heap_alloc_new (w.alloc (.cells L.toArray 94)) (.cells M.toArray 94)
 have bW:Below _ _ ((w.alloc (.cells L.toArray 94)).alloc (.cells M.toArray 94)):=qal _ _
 rw[e]at h g
 exact⟨_,rfl,b,(Zh.new w L _).below bW,h,⟨_,(bW.block _ (by simp)).trans (heap_alloc_new w _)⟩,⟨_,g⟩,z⟩
theorem jh5(s:StoreD)(v:Value)(w:World)(hv:Jd w v s)(ok:Zr s)(oG:relB s.now=true)(dC:relB s.was=true)(CG:s.vs.length<=1000)(hL:(jan s.vs).length<=1000)(nV:∀e∈jan s.vs,EvR e):
  Cl 18 #[v] w fun q w'=>∃x,q=.returned x/\Zb w' w.heap.size x (entF (momS s) (jan s.vs))/\Bw w w':=by
 obtain⟨a,b,c,d,e,f,va,ia,ca,cb,cc,cd,ce,cf,cv,ci,rfl,hN,hW,hV,hX,_,_⟩:=hv.form
 obtain⟨wA,cK,b1,A1,O1,z1⟩:=juv w [iv s.tx,.slice a s.now.rules.length ca,.slice b s.now.zones.length cb,.slice c s.now.links.length cc,.slice d s.was.rules.length cd,.slice e s.was.zones.length ce,.slice f s.was.links.length cf,iv s.cur,.slice va s.vs.length cv,.slice ia s.ix.length ci] 41
 have x4:=A1.c 8 (u:=.slice va s.vs.length cv) rfl
 rw[<- cK]at x4
 have jB:=jd1 s.vs va s.vs.length cv wA (hV.below b1) rfl CG
 have HN:=hid hN
 have HW:=hid hW
 have HA:=hid cK
 clear hN hW hV hX hv cK
 unfold Cl;go_in
 go_wp2_with fail
 rw[HA.out]
 clear HA x4
 refine jB.mono ?_
 rintro q w2 ⟨lv,rfl,aW,ac⟩
 rw[z1]at aW
 obtain⟨pl,cl,rfl,eG⟩:=jkx aW
 have A2:=A1.below ac
 have O2:Zb w2 (w.heap.size+1) (.slice (some (ad (w.heap.size+1) 0)) 0 0) []:=jac O1 ac
 have b2:=qtr b1 ac
 have y1:=A2.c 1 (u:=.slice a s.now.rules.length ca) rfl
 have y2:=A2.c 2 (u:=.slice b s.now.zones.length cb) rfl
 have y3:=A2.c 3 (u:=.slice c s.now.links.length cc) rfl
 have y4:=A2.c 4 (u:=.slice d s.was.rules.length cd) rfl
 have y5:=A2.c 5 (u:=.slice e s.was.zones.length ce) rfl
 have y6:=A2.c 6 (u:=.slice f s.was.links.length cf) rfl
 obtain⟨L,j4⟩:=qeb (jan s.vs)
 rw[j4]at hL nV aW eG ⊢
 have nE:=hid j4
 obtain⟨nl,fH⟩:=qeb L.length
 have jL:=hid fH
 rw[fH]at eG hL ⊢
 have dR:w.heap.size+1+1<=w2.heap.size:=by have:=ac.size;omega
 obtain⟨w4,yj,jN,KN,KW,TN,TW,z4⟩:=jsp w2 [.slice a s.now.rules.length ca,.slice b s.now.zones.length cb,.slice c s.now.links.length cc,nS,nS] [.slice d s.was.rules.length cd,.slice e s.was.zones.length ce,.slice f s.was.links.length cf,nS,nS]
 have kp:Jb w2 (w.heap.size+1) (.slice pl nl cl) L:=by rw[fH]at aW;exact jaj aW (by omega)
 obtain⟨B,dr⟩:=qeb w2.heap.size
 have bJ:Jn s w w4 w2.heap.size w2.heap.size (w2.heap.size+1) w.heap.size a b c d e f ca cb cc cd ce cf (stL s a b c d e f va ia ca cb cc cd ce cf cv ci) L (.slice pl nl cl) (entF (momS s) (L.take 0)) 0 (.slice (some (ad (w.heap.size+1) 0)) 0 0):=
  ⟨⟨_,_,[],[],_,_,[],[],jjq KN TN (nlr _),rfl,nlr _,jjq KW TW (by omega),rfl,nlr _,fun g h1 h2=>by(have:=jwr h1;have:=jwr h2;omega)⟩,⟨_,0,0,rfl,jac O2 jN,rfl,nlr _⟩,jac kp jN,A2.below jN,(qtr b2 jN),by rw[z4];omega⟩
 have lQ:Hid (Jn s w w4 B B (B+1) w.heap.size a b c d e f ca cb cc cd ce cf (stL s a b c d e f va ia ca cb cc cd ce cf cv ci) L (.slice pl nl cl) (entF (momS s) (L.take 0)) 0 (.slice (some (ad (w.heap.size+1) 0)) 0 0)):=by simp only[Hid];rw[<- dr];exact bJ
 have HA:=hid yj
 have gn:w.heap.size<B:=by omega
 have sZ:=hid eG
 clear bJ KN KW TN TW yj jN aW kp O2 A2 b2 ac A1 O1 b1 z1 jB fH j4 eG z4
 go_wp2
 rw[HA.out]
 clear HA
 try simp only[dr]
 clear dr dR y1 y2 y3 y4 y5 y6
 go_loopw [3,7,8,9] (fun s3 s7 _ _ wr=>∃i:Nat,i<=nl/\s7=iv i/\Hid (Jn s w wr B B (B+1) w.heap.size a b c d e f ca cb cc cd ce cf (stL s a b c d e f va ia ca cb cc cd ce cf cv ci) L (.slice pl nl cl) (entF (momS s) (L.take i)) i s3)) (fun _ s7 _ _ _=>nl-(intOf s7).toNat)
 case atStart=>exact⟨0,by omega,rfl,lQ⟩
 case round=>
  obtain⟨wa,dS⟩:=qea wr
  subst dS
  obtain⟨i,hi,rfl,HR⟩:=hrel
  clear lQ
  obtain⟨go,mo,co,qJ,ly,iD,vi⟩:=HR.out.own
  subst qJ
  by_cases hlt:i<nl
  ·have i1:(i:Int)<(nl:Int):=by omega
   have i0:(0:Int)<=(i:Int):=by omega
   obtain⟨gl,rfl⟩:=sZ.out (by omega)
   obtain⟨ev,jb⟩:∃x,L[i]? =some x:=⟨_,lgg (by have:=jL.out;omega)⟩
   have hR:=nV ev (lmg jb)
   have HT:Hid (entF (momS s) (L.take (i+1))=entAdd (momS s) (entF (momS s) (L.take i)) ev):=jo5 jb
   have yE:=hid jb
   obtain⟨c0,c1,c2,c3,c4,c5⟩:=jf0 HR.out.live jb
   have s7:=HR.out.sv.c 7 (u:=iv s.cur) rfl
   have NG:=hid ly
   have xQ:mo<=1000:=by have h1:=jep (momS s) (L.take i);rw[List.length_take]at h1;omega
   have HC:Hid (∀wx,Jn s w wx B B (B+1) w.heap.size a b c d e f ca cb cc cd ce cf (stL s a b c d e f va ia ca cb cc cd ce cf cv ci) L (so gl nl cl) (entF (momS s) (L.take i)) i (so go mo co)->(∀zv tv zs ts,Zk wx B B s.now a b c ca cb cc zv tv zs ts->ts.length=zs.length->zs.length<=i->Cl 37 #[.pointer (some (ad B 0)),ev.v] wx (InstP B B s.now a b c ca cb cc zv tv zs ev wx))/\(∀zv tv zs ts,Zk wx B (B+1) s.was d e f cd ce cf zv tv zs ts->ts.length=zs.length->zs.length<=i->Cl 37 #[.pointer (some (ad (B+1) 0)),ev.v] wx (InstP B (B+1) s.was d e f cd ce cf zv tv zs ev wx))):=fun wx h=>⟨fun zv tv zs ts k1 k2 k3=>jd3 w B B s.now a b c ca cb cc zv tv zs ts ev wx HN.out h.bel (by omega) h.lo ok.now oG k1 k2 (by omega) hR,fun zv tv zs ts k1 k2 k3=>jd3 w B (B+1) s.was d e f cd ce cf zv tv zs ts ev wx HW.out h.bel (by omega) h.lo ok.was dC k1 k2 (by omega) hR⟩
   have js:Hid (∀wx,Jn s w wx B B (B+1) w.heap.size a b c d e f ca cb cc cd ce cf (stL s a b c d e f va ia ca cb cc cd ce cf cv ci) L (so gl nl cl) (entF (momS s) (L.take i)) (i+1) (so go mo co)->wx.cell? (ad gl (i*6))=some (iv ev.id)):=fun wx h=>(jf0 h.live yE.out).1
   clear jb hR ly nV
   go_upto_region 9 with fail
   go_cut [40]from 28 to 39 (fun Mb wx=>∃(bo:Bool) (nq:Nat),Mb=.bool bo/\wx=wa.drewN nq/\Hid (momS s ev=if bo=true then momR s.was ev else momR s.now ev))
   case first=>
    by_cases h1:s.cur=0
    ·have HM:Hid (momS s ev=momR s.now ev):=jrq (.inl h1)
     rw[h1]at s7
     clear h1
     go_quiet (fail)
     go_wp2
     go_meet
     exact⟨false,nq,rfl,rfl,HM.out⟩
    have ET:(s.cur != 0)=true:=by simp[h1]
    by_cases h2:ev.id<s.cur
    ·have HM:Hid (momS s ev=momR s.now ev):=jrq (.inr h2)
     have tN:decide (s.cur<=ev.id)=false:=by simp;omega
     clear h1 h2
     go_quiet (fail)
     go_wp2
     go_meet
     exact⟨false,nq,rfl,rfl,HM.out⟩
    ·have HM:Hid (momS s ev=momR s.was ev):=jzg (fun h=>h.elim h1 h2)
     have tN:decide (s.cur<=ev.id)=true:=by simp;omega
     clear h1 h2
     go_quiet (fail)
     go_wp2
     go_meet
     exact⟨true,nq,rfl,rfl,HM.out⟩
   case rest=>
    obtain⟨bo,nq,rfl,rfl,xh⟩:=hcut
    have uF:=HR.out.same (show Bw wa (wa.drewN nq)from⟨rfl,rfl,rfl,nlr _,fun _ _=>rfl⟩)
    have d0:(wa.drewN nq).cell? (ad gl (i*6))=some (iv ev.id):=c0
    have d1:(wa.drewN nq).cell? (ad gl (i*6+1))=some (.string ev.name):=c1
    have d2:(wa.drewN nq).cell? (ad gl (i*6+2))=some (.string ev.zone):=c2
    have d3:(wa.drewN nq).cell? (ad gl (i*6+3))=some (iv ev.wall):=c3
    have d4:(wa.drewN nq).cell? (ad gl (i*6+4))=some (iv ev.gap):=c4
    have d5:(wa.drewN nq).cell? (ad gl (i*6+5))=some (iv ev.fold):=c5
    have lq:=uF.ask_n (by omega) (by omega) ev (HC.out _ uF).1
    have tY:=uF.ask_w (by omega) (by omega) ev (HC.out _ uF).2
    clear uF HC c0 c1 c2 c3 c4 c5 s7
    simp only[EventD.v]at lq tY
    generalize wa.drewN nq=wq at *
    obtain⟨⟨M1,M2⟩,hM⟩:=qeb (momS s ev)
    have HM:=hidE hM
    rw[xh.out]at hM
    clear xh
    cases bo
    all_goals
     first
     |rw[if_neg Bool.false_ne_true]at hM;rw[hM]at lq;have hC:=lq
     |rw[if_pos rfl]at hM;rw[hM]at tY;have hC:=tY
     clear hM lq tY
     go_wp2_with fail
     refine hC.mono ?_
     rintro q w5 ⟨rfl,eC⟩
     have f0:=js.out w5 eC
     have gr:=hidE eC
     clear eC hC d0 d1 d2 d3 d4 d5
     cases M2
     ·have li:Hid (Jn s w w5 B B (B+1) w.heap.size a b c d e f ca cb cc cd ce cf (stL s a b c d e f va ia ca cb cc cd ce cf cv ci) L (so gl nl cl) (entF (momS s) (L.take (i+1))) (i+1) (so go mo co)):=by
       simp only[Hid]
       rw[HT.out,entAdd,HM.out,if_neg (by simp)]
       exact gr.out
      go_wp2
      go_roundw
      case rel=>exact⟨i+1,by omega,by go_num,li⟩
      case measure=>simp[intOf];omega
     ·obtain⟨g5,m5,k5,vq,fe,kE,uY⟩:=gr.out.own
      injection vq with h1 h2 h3
      injection h1 with h1
      injection h1 with h1
      subst h1 h2 h3
      have ir:=je8 (entF (momS s) (L.take i)) ⟨M1,ev.id⟩ go mo co (w.heap.size+1) w5 fe kE uY xQ
      have sV:=hidE kE
      clear fe kE
      go_wp2_with fail
      refine ir.mono ?_
      rintro q w6 ⟨g6,c6,rfl,mu,fV,hb6⟩
      have te:Hid (Jn s w w6 B B (B+1) w.heap.size a b c d e f ca cb cc cd ce cf (stL s a b c d e f va ia ca cb cc cd ce cf cv ci) L (so gl nl cl) (entF (momS s) (L.take (i+1))) (i+1) (so g6 (mo+1) c6)):=by
       simp only[Hid]
       rw[HT.out,entAdd,HM.out,if_pos rfl]
       exact gr.out.below hb6 ⟨g6,mo+1,c6,rfl,jaj fV (Nat.le_trans (by omega) gr.out.lo),by rw[ja9,sV.out],mu⟩
      clear fV hb6 ir
      go_wp2
      go_roundw
      case rel=>exact⟨i+1,by omega,by go_num,te⟩
      case measure=>simp[intOf];omega
  ·obtain rfl:i=nl:=by omega
   have HF:Hid (Zb wa w.heap.size (so go mo co) (entF (momS s) L)):=by
    rw[List.take_of_length_le (by rw[jL.out];exact nlr _)]at ly
    exact jaj ly (by omega)
   have BP:=HR.out.bel
   clear ly
   go_wp2
   go_ret
   exact⟨so go mo co,rfl,by rw[nE.out];exact HF.out,BP⟩
