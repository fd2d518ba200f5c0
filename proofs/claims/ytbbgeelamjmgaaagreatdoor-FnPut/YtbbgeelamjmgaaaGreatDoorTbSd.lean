import Derived.Test.YtbbgeelamjmgaaaGreatDoorZonePd
import Derived.Test.YtbbgeelamjmgaaaGreatDoorTsPd
set_option maxRecDepth 20000
set_option maxHeartbeats 0
set_option linter.unusedSimpArgs false
open Go.RowKit Go.Sort
namespace Go.Proofs.YtbbgeelamjmgaaaGreatDoor
variable{e:ZH}{r:ZW}{E:List ZH}{k s:Nat}{T:List ZK}{b:Int}{x:ZQ}{nm:ByteArray}{z:pE}{W W' w:World}{v0 v1 v2 z0 z1:Value}
structure vbM(e:ZH):Prop where
 off: -86400<=e.Zq/\e.Zq<=86400
 unt: -62135596800<=e.ZO/\e.ZO<=253402300799
 fmt:e.mr.size<=12
 sav:e.Vv.size=0-> -7200<=e.YX/\e.YX<=7200
 nam:e.Vv.size<=20
theorem jmk{H:List Z5}(he:vbM e)(hH:∀h∈H,vdT h)(t:Int):(-7200<=(Mv e H t).YX/\(Mv e H t).YX<=7200)/\(Mv e H t).ZR.size<=6:=by
 by_cases h0:e.Vv.size=0
 .rw[jjm h0]
  exact⟨he.sav h0,by simp[ByteArray.size]⟩
 .rw[jen h0]
  cases hc:hcnt H t with
  | zero=>
   refine⟨by simp[jdd],?_⟩
   show(jb4 H).size<=6
   clear hc
   induction H with
   |nil=>simp[jb4,ByteArray.size]
   |cons a H ih=>
    rw[jb4];split
    .exact(hH a M).ZR
    .exact ih λh hh=>hH h (lmc _ hh)
  |succ m=>
   obtain⟨x,hx⟩:∃x,H[m]? =some x:=⟨_,ZV (by have:=jwz H t;omega)⟩;have hB:=hH x (ui hx);simp only[jdd];rw[hx];exact⟨hB.YX,hB.ZR⟩
def j26(r:ZW)(last:Bool)(e:ZH)(st:List ZK × Int):List ZK × Int:=
 if last=true then(GB (yO e (Fg r e.Vv e.Zq).1) (vaG st.2 (yM (Fg r e.Vv e.Zq).1 st.2 253402300799)) st.1,253402300799)
 else(if st.2<OV e (Fg r e.Vv e.Zq).1 st.2 then GB (yO e (Fg r e.Vv e.Zq).1) (vaG st.2 (yM (Fg r e.Vv e.Zq).1 st.2 (OV e (Fg r e.Vv e.Zq).1 st.2))) st.1 else st.1,OV e (Fg r e.Vv e.Zq).1 st.2)
def uj(r:ZW)(E:List ZH):Nat->List ZK × Int
 |0=>([], -62135596800)
 |k+1=>match E[k]? with
  |some e=>j26 r (decide (k+1=E.length)) e (uj r E k)
  |none=>uj r E k
def okK(r:ZW)(E:List ZH):Nat->Bool
 |0=>true
 |k+1=>okK r E k&&(match E[k]? with|some e=>(Fg r e.Vv e.Zq).2|none=>true)
def vay(r:ZW)(E:List ZH):List ZK × Bool:=if okK r E E.length=true then((uj r E E.length).1,decide ((uj r E E.length).1.length<=600))else([],false)
theorem j04(he:E[k]? =some e)(h:(Fg r e.Vv e.Zq).2=false):∀{n:Nat},k<n->okK r E n=false:=by
 intro n
 induction n with
 |zero=>intro hn;omega
 |succ n ih=>
  intro hn;rw[okK];by_cases e1:k=n
  .subst e1;rw[he];simp[h]
  .rw[ih Q];rfl
theorem jvx(he:E[k]? =some e)(h:(Fg r e.Vv e.Zq).2=true)(hk:okK r E k=true):okK r E (k+1)=true:=by rw[okK,hk,he];simp[h]
theorem jln(he:E[k]? =some e)(hk:k+1=E.length)(hs:uj r E k=(T,b)):uj r E (k+1)=(GB (yO e (Fg r e.Vv e.Zq).1) (vaG b (yM (Fg r e.Vv e.Zq).1 b 253402300799)) T,253402300799):=by
 rw[uj,he];simp only;rw[rT hk,hs];rfl
theorem jlm(he:E[k]? =some e)(hk:¬k+1=E.length)(hs:uj r E k=(T,b)):uj r E (k+1)=(if b<OV e (Fg r e.Vv e.Zq).1 b then GB (yO e (Fg r e.Vv e.Zq).1) (vaG b (yM (Fg r e.Vv e.Zq).1 b (OV e (Fg r e.Vv e.Zq).1 b))) T else T,OV e (Fg r e.Vv e.Zq).1 b):=by
 rw[uj,he];simp only;rw[dfe hk,hs];rfl
theorem j1s:∀k,(-62135596800<=(uj r E k).2/\(uj r E k).2<=253402300799)/\(uj r E k).1.length<=2001*k:=by
 intro k
 induction k with
 |zero=>simp[uj]
 |succ k ih=>
  rw[uj];split
  .rename_i e he
   have⟨⟨i1,i2⟩,i3⟩:=ih;have hl:=jea (r:=r) (nm:=e.Vv) (off:=e.Zq);generalize (Fg r e.Vv e.Zq).1=H at *;have hx:∀n,(vaG (uj r E k).2 (yM H (uj r E k).2 n)).length<=2001:=λn=>by
    have h1:=jjs (uj r E k).2 (yM H (uj r E k).2 n);have h2:=jdo H (uj r E k).2 n;omega
   unfold j26;split
   .refine⟨M,?_⟩
    have h1:=jec (yO e (Fg r e.Vv e.Zq).1) (vaG (uj r E k).2 (yM (Fg r e.Vv e.Zq).1 (uj r E k).2 253402300799)) (uj r E k).1;have h2:=jjs (uj r E k).2 (yM (Fg r e.Vv e.Zq).1 (uj r E k).2 253402300799);have h3:=jdo (Fg r e.Vv e.Zq).1 (uj r E k).2 253402300799;have h4:=jea (r:=r) (nm:=e.Vv) (off:=e.Zq)
    show(GB _ _ _).length<=_
    omega
   .refine⟨?_,?_⟩
    .show _<=OV e _ _/\OV e _ _<=_
     unfold OV;omega
    .show(if _ then _ else _:List ZK).length<=_
     split
     .have h1:=jec (yO e (Fg r e.Vv e.Zq).1) (vaG (uj r E k).2 (yM (Fg r e.Vv e.Zq).1 (uj r E k).2 (OV e (Fg r e.Vv e.Zq).1 (uj r E k).2))) (uj r E k).1
      have h2:=jjs (uj r E k).2 (yM (Fg r e.Vv e.Zq).1 (uj r E k).2 (OV e (Fg r e.Vv e.Zq).1 (uj r E k).2));have h3:=jdo (Fg r e.Vv e.Zq).1 (uj r E k).2 (OV e (Fg r e.Vv e.Zq).1 (uj r E k).2);have h4:=jea (r:=r) (nm:=e.Vv) (off:=e.Zq);omega
     .omega
  .omega
structure vgM(r:ZW)(E:List ZH)(w:World)(q:Ending)(W':World):Prop where
 ex:∃v b T,q=V (.tuple #[v,.bool b])/\Zf W' w.heap.size v T/\vay r E=(T,b)/\Bw w W'
theorem jpt{P:List ZQ}:∀r∈P.map ZQ.cs,r.length=9:=λr hr=>by
 obtain⟨x,_,rfl⟩:=List.mem_map.mp hr;rfl
theorem jvl(h:BF x=true):onB x.on=true:=by
 unfold BF at h;simp only[vB]at h;exact h.2.2.2.2.1
theorem jof(r:ZW)(E:List ZH)(ae:Option Addr)(It mb base:Nat)(w:World)(hE:Za w ae 6 (E.map ZH.cs))(hM:Jp w base mb r.Vv)(cg:Zx w)(hr:∀x∈r.Vv,BF x=true)(fk:r.Vv.length<=40)(hP:∀e∈E,vbM e)(hl:E.length<=8):
  C 238 #[U ae E.length It,.map (some mb)] w λq W'=>vgM r E w q W':=by
 have HR:=hid hr;have HP:=hid hP;have ut:MxA w:=cg.2;have HM:=hid hM;have HV:=hid cg;clear hr hP hM cg;unfold C;go_in;go_wp2;go_loopw [6,7,19] (λs6 s7 Dh wr=>∃(k:Nat) (a6:Option Addr) (m6 c6:Nat),k<=E.length/\s6=U a6 m6 c6/\s7=J (uj r E k).2/\Dh=J k/\Zf wr w.heap.size (U a6 m6 c6) (uj r E k).1/\Hid (okK r E k=true)/\Bw w wr) (λ_ _ Dh _=>E.length-(intOf Dh).toNat)
 .exact⟨0,none,0,0,Q,rfl,rfl,rfl,World.ownsRow_nil _ _ _ _,rfl,ZU _ _⟩
 ·
  obtain⟨k,a6,m6,c6,hk,rfl,f8,rfl,hT,iA,hB⟩:=hrel;have⟨⟨hb1,ac⟩,fg⟩:=j1s (r:=r) (E:=E) k;by_cases hlt:k<E.length
  .obtain ⟨e,he⟩:=DV hlt
   have eR:=HP.out e (ui he);obtain⟨be,oe,rfl,hc⟩:=(hE.below hB).at (i:=k) (r:=e.cs) (by rw[Z8,he];rfl);have c0:wr.cell? ⟨be,oe+k*6,none⟩=some (J e.Zq):=hc 0 _ rfl;have c1:=hc 1 _ rfl;have c2:=hc 2 _ rfl;have c3:=hc 3 _ rfl;have c4:=hc 4 _ rfl;have c5:=hc 5 _ rfl;have⟨⟨T0,b⟩,ei⟩:=ZL (uj r E k);rw[ei]at hT f8 hb1 ac fg;simp only at hT f8 hb1 ac fg;subst f8;have dI:=hB.size;have dB:=ZA wr (G #[J e.Zq,I e.Vv,J e.YX,I e.mr,J e.ZO,I e.of] 154);have aj:Bw w (wr.alloc (G #[J e.Zq,I e.Vv,J e.YX,I e.mr,J e.ZO,I e.of] 154)):=hB.alloc dI _;obtain⟨jP,jR,jT,jV,jX,jZ⟩:(λz:World=>z.cell? ⟨wr.heap.size,0,none⟩=some (J e.Zq)/\z.cell? ⟨wr.heap.size,1,none⟩=some (I e.Vv)/\z.cell? ⟨wr.heap.size,2,none⟩=some (J e.YX)/\z.cell? ⟨wr.heap.size,3,none⟩=some (I e.mr)/\z.cell? ⟨wr.heap.size,4,none⟩=some (J e.ZO)/\z.cell? ⟨wr.heap.size,5,none⟩=some (I e.of)) (wr.alloc (G #[J e.Zq,I e.Vv,J e.YX,I e.mr,J e.ZO,I e.of] 154)):=RQ;have⟨vl,i8,oc,_⟩:=jwa (P:=Tryz.prog) (T:=274) (HM.out.kept ⟨aj.os,aj.tape,aj.output,aj.size,λk hk _=>aj.block k hk⟩) Tryz.underlying274 Tryz.underlying9 jmx e.Vv (by have:=eR.nam;unfold maxLen;omega);obtain⟨al,cl,rfl,Fv,_⟩:=jbe (rows:=(jbt r.Vv e.Vv).map ZQ.cs) (by rw[BX];exact oc) jpt;have i8:=i8 (wr.alloc (G #[J e.Zq,I e.Vv,J e.YX,I e.mr,J e.ZO,I e.of] 154)) rfl;rw[BX]at i8;have qE:∀x∈jbt r.Vv e.Vv,BF x=true:=λx hx=>HR.out x (List.mem_filter.mp hx).1
   have pD:=HV.out.of_below aj;have hH:=jqo (jbt r.Vv e.Vv) al cl e.Zq (wr.alloc (G #[J e.Zq,I e.Vv,J e.YX,I e.mr,J e.ZO,I e.of] 154)) Fv pD.1 pD.2 (λx hx=>jrg (qE x hx)) (Nat.le_trans (List.length_filter_le _ _) fk) (λx hx=>jza (jvl (qE x hx))) eR.off.1 eR.off.2;have bU:(wr.alloc (G #[J e.Zq,I e.Vv,J e.YX,I e.mr,J e.ZO,I e.of] 154)).heap.size=wr.heap.size+1:=M;rw[bU]at hH;have eY:(k:Int)<(E.length:Int):=Q;clear hc oc Fv qE pD;go_wp2_with fail;refine hH.mono ?_;rintro q w2 ⟨v2,H,bb,rfl,aW,cY,bu⟩;have⟨pK,iZ⟩:=jz3 cY;obtain⟨a2,fJ,rfl,mZ⟩:=aW.seq;have an:=aj.trans (bu.mono Q);have jQ:=YR (by first|exact bu|exact bU.symm ▸ bu) jP;have jS:=YR (by first|exact bu|exact bU.symm ▸ bu) jR;have jU:=YR (by first|exact bu|exact bU.symm ▸ bu) jT;have jW:=YR (by first|exact bu|exact bU.symm ▸ bu) jV;have jY:=YR (by first|exact bu|exact bU.symm ▸ bu) jX;have k8:=YR (by first|exact bu|exact bU.symm ▸ bu) jZ;cases bb with
   |false=>
    have HX:Hid (vay r E=([],false)):=by simp only[Hid,vay];rw[j04 he iZ.symm hlt];rfl
    clear hH cY pK iZ aW mZ i8;go_wp2;exact ZM (v:=.tuple #[nS,.bool false]) (by simp[results,Tryz.results238,go_sem]) rfl ⟨⟨_,_,[],rfl,World.ownsRow_nil _ _ _ _,HX.out,an⟩⟩
   | true =>
    have rQ:Hid (okK r E (k+1)=true):=jvx he iZ.symm iA.out;have nW:=jmi (nm:=e.Vv) HR.out eR.off.1 eR.off.2;have jA:=jea (r:=r) (nm:=e.Vv) (off:=e.Zq);have mh:=λh=>jln (r:=r) (T:=T0) (b:=b) he h ei
    have fY:=λh=>jlm (r:=r) (T:=T0) (b:=b) he h ei
    rw[<- pK]at nW jA mh fY;have nD:Hid (∀t,(-7200<=(Mv e H t).YX/\(Mv e H t).YX<=7200)/\(Mv e H t).ZR.size<=6):=jmk eR nW;have BW:=eR.fmt;have iI:=eR.off.1;have sB:=eR.off.2;have gZ:∀b o,a2=some ⟨b,o,none⟩->wr.heap.size<=b/\b<w2.heap.size:=λb o h=>by
     have h1:=World.ownsRow.lt aW b (by rw[h];rfl);omega
    have Bl:=jom e H a2 fJ wr.heap.size w2 mZ gZ (by have:=bu.size;omega) (λh hh=>(nW h hh).at_) jA;simp only[ZH.v]at Bl;have gU:=uZ (uZ hT dB) (by first|exact bu|exact bU.symm ▸ bu);have jg:∀g,(U a6 m6 c6).ownBlock=some g->g<wr.heap.size:=λg hg=>(World.ownsRow.lt hT g hg).2
    clear hH cY pK iZ aW i8 ei iA hT;go_wp2_with fail;refine Bl.mono ?_;rintro q w3 ⟨K,cap,rfl,eN,bl⟩;have ax:=Zp an bl;have dE:=uZ gU bl;have nc:=mZ.below bl;have Fl:wr.heap.size<=w3.heap.size:=by have h1:=bu.size;have h2:=bl.size;omega
    have uw:wr.heap.size<w3.heap.size:=by have h1:=bu.size;have h2:=bl.size;omega
    have qN:=dI;have fM:=YR bl jQ;have eJ:=YR bl jS;have fN:=YR bl jU;have fO:=YR bl jW;have fP:=YR bl jY;have fQ:=YR bl k8;clear Bl bl gU mZ gZ bu dB bU jP jR jT jV jX jZ jQ jS jU jW jY k8 c0 c1 c2 c3 c4 c5;have⟨n0,mE⟩:=ZL wr.heap.size;have⟨nF,Ga⟩:=ZL w3.heap.size;rw[mE]at fM eJ fN fO fP fQ eN Fl uw jg qN;rw[Ga]at eN uw;have mF:nF<=w3.heap.size:=Q;rw[mE];clear mE Ga aj an;by_cases hla:k+1=E.length
    .have hq:((k:Int)==(E.length:Int)-1)=true:=RO
     have HS:Hid (uj r E (k+1)=(GB (yO e H) (vaG b (yM H b 253402300799)) T0,253402300799)):=mh hla;have eD:=je1 H a2 fJ b 253402300799 w3 nc jA;clear mh fY hla;go_wp2_with fail;refine eD.mono ?_;rintro q w5 ⟨vL,L,rfl,pR,us,md,aV⟩;have HL:Hid (GB (yO e H) L T0=GB (yO e H) (vaG b (yM H b 253402300799)) T0):=jks (yO e H) us md T0;have ma:L.length<=2001:=by have h1:=md.length_eq;have h2:=jdo H b 253402300799;simp only[List.length_cons]at h1;omega
     have⟨aL,mL,cL,CE⟩:=Dt pR;subst CE;have sf:0<L.length:=by have h1:=md.length_eq;simp only[List.length_cons]at h1;omega
     have⟨gL,ze,jB,_,lu,un,uo⟩:=pR.open sf;injection jB with hLv1 hLv2 hLv3
     subst hLv1 hLv2 hLv3;have sW:=hid uo;have bG:=Zp ax aV;have m5:Mid n0 nF w3 w5:=Mid.of_below aV mF;have jz:=eN.mid m5;have iT:=YR aV fM;have iU:=YR aV eJ;have iV:=YR aV fN;have iW:=YR aV fO;have iX:=YR aV fP;have iY:=YR aV fQ;have fe:=uZ dE aV;have tO:nF<=w5.heap.size:=Nat.le_trans mF aV.size;have⟨n1,iO⟩:=ZL w5.heap.size;have pN:gL<n1:=by rw[<- iO];exact lu
     have pM:n0<=gL:=Nat.le_trans Fl un;have Cm:nF<=n1:=by rw[<- iO];exact tO
     have kF:∀g,(U a6 m6 c6).ownBlock=some g->g<n0\/n1<=g:=λg hg=>.inl (jg g hg)
     have bT:n0<n1:=Q;have qH:n1<=w5.heap.size:=Q;have vK:w.heap.size<=n0:=qN;clear pR us md uo aV lu un iO tO;go_wp2;go_loopw [6,61] (λs6 rA wq=>∃(j:Nat) (p:Option Addr) (m c:Nat),j<=L.length/\rA=J j/\s6=U p m c/\Zf wq w.heap.size (U p m c) (GB (yO e H) (L.take j) T0)/\Hid (∀g,(U p m c).ownBlock=some g->g<n0\/n1<=g)/\Mid n0 n1 w5 wq/\w5.heap.size<=wq.heap.size/\Bw w wq) (λ_ rA _=>L.length-(intOf rA).toNat)
     .exact⟨0,a6,m6,c6,Q,rfl,rfl,fe,kF,Mid.refl _ _ _,ZD _,bG⟩
     ·
      have⟨wq,qQ⟩:=wL wr;subst qQ;obtain⟨j,p,m,c,hj,rfl,rfl,bI,jh,du,iQ,dt⟩:=hrel;by_cases eP:j<L.length
      .have⟨t,ht⟩:=DV eP
       have ct:wq.cell? ⟨gL,j,none⟩=some (J t):=du.cell pM pN (sW.out j t ht);have lj:Hid (GB (yO e H) (L.take (j+1)) T0=LP (GB (yO e H) (L.take j) T0) (yO e H t)):=by simp only[Hid];rw[List.take_add_one,ht];exact jgk _ _ _ _
       have oj:(GB (yO e H) (L.take j) T0).length<=100000:=by
        have h1:=jec (yO e H) (L.take j) T0;have h2:(L.take j).length<=L.length:=by rw[List.length_take];omega
        omega
       have⟨TT,eD⟩:=ZL (GB (yO e H) (L.take j) T0);rw[eD]at bI lj oj;have qW:=du.cell (ZD _) bT iT;have qX:=du.cell (ZD _) bT iU;have qY:=du.cell (ZD _) bT iV;have qZ:=du.cell (ZD _) bT iW;have r8:=du.cell (ZD _) bT iX;have r9:=du.cell (ZD _) bT iY;have bY:Bw w wq.drew:=dt.trans ((rW wq).mono dt.size);have hC:=jz.tell wq.drew t (λg h1 h2=>du g h1 Q);have xZ:=jz.go;have⟨⟨rC,rD⟩,Mf⟩:=nD.out t;have lA:=λw1 hM=>ji2 e (Mv e H t) t w1 hM (by have:=BW;omega) Q iI sB rC rD
       have nJ:Hid (yO e H t=jdl e (Mv e H t) t):=rfl;have qp:=λw1 h1 h2=>jfu TT (jdl e (Mv e H t) t) (U p m c) w.heap.size w1 h1 h2 oj
       generalize Mv e H t=F at *;obtain⟨fa,fs,fl⟩:=F;generalize jdl e ⟨fa,fs,fl⟩ t=X at *;obtain⟨xa,xo,xs,xb⟩:=X;simp only[Z5.v,ZK.v,ZH.v]at hC lA qp;have Bu:Zf wq.drew w.heap.size (U p m c) TT:=bI;have qG:MxA wq.drew:=MxA.of_below ut bY;have mC:(j:Int)<(L.length:Int):=Q;have fi:∀g,(U p m c).ownBlock=some g->¬g=n0:=λg hg=>by have:=jh.out g hg;omega
       have mQ:∀g,(U p m c).ownBlock=some g->w.heap.size<=g:=λg hg=>(World.ownsRow.lt bI g hg).1
       clear ht eD;go_wp2_with fail;go_region_held3 (λw'=>w'.cell? ⟨n0,0,none⟩=some (J e.Zq)/\w'.cell? ⟨n0,1,none⟩=some (I e.Vv)/\w'.cell? ⟨n0,2,none⟩=some (J e.YX)/\w'.cell? ⟨n0,3,none⟩=some (I e.mr)/\w'.cell? ⟨n0,4,none⟩=some (J e.ZO)/\w'.cell? ⟨n0,5,none⟩=some (I e.of)) (go_keep) (first|(refine hC.mono ?_;rintro q6 w6 ⟨rfl,hb6⟩;have re:=YR hb6 qW;have ri:=YR hb6 qX;have rk:=YR hb6 qY;have rm:=YR hb6 qZ;have rr:=YR hb6 r8;have ru:=YR hb6 r9;have fV:Zf w6 w.heap.size (U p m c) TT:=uZ Bu hb6;have Ch:=MxA.of_below qG hb6;have cp:Bw w w6:=Zp bY hb6)|(go_at_call 269;refine(lA _ Ch).mono ?_;rintro q7 w7 ⟨rfl,ay⟩;have rf:=YR ay re;have rj:=YR ay ri;have rl:=YR ay rk;have rp:=YR ay rm;have rt:=YR ay rr;have ry:=YR ay ru;have cj:Zf w7 w.heap.size (U p m c) TT:=uZ fV ay;have dz:Bw w w7:=Zp cp ay)|(go_at_call 268;refine(qp _ cj dz.size).mono ?_;rintro q8 w8 ⟨v8,rfl,dF,cT,jf⟩;obtain⟨p8,m8,c8,rfl⟩:=Dt dF;have Df:=cT.cell (λhg=>fi _ hg rfl) rf;have Dj:=cT.cell (λhg=>fi _ hg rfl) rj;have Dl:=cT.cell (λhg=>fi _ hg rfl) rl;have Dn:=cT.cell (λhg=>fi _ hg rfl) rp;have Dp:=cT.cell (λhg=>fi _ hg rfl) rt;have Dr:=cT.cell (λhg=>fi _ hg rfl) ry))
       all_goals
        have tQ:w5.heap.size<=w7.heap.size:=by have h1:=hb6.size;have h2:=ay.size;have h3:wq.drew.heap.size=wq.heap.size:=rfl;omega
        have M7:Mid n0 n1 w5 w7:=(du.trans (Mid.of_below (n0:=n0) (n1:=n1) (rW wq) Q)).trans ((Mid.of_below (n0:=n0) (n1:=n1) hb6 (by have h3:wq.drew.heap.size=wq.heap.size:=rfl;omega)).trans (Mid.of_below (n0:=n0) (n1:=n1) ay (by have h1:=hb6.size;have h3:wq.drew.heap.size=wq.heap.size:=rfl;omega)));have M8:Mid n0 n1 w5 w8:=M7.trans λg h1 h2=>cT.block g Q λhg=>by have:=jh.out g hg;omega
        have B8:Bw w w8:=dz.trans (cT.below (λg hg=>mQ g hg) dz.size);have yP:Hid (Zf w8 w.heap.size (U p8 m8 c8) (GB (yO e H) (L.take (j+1)) T0)):=by rw[lj.out,nJ.out];exact dF
        have yH:Hid (∀g,(U p8 m8 c8).ownBlock=some g->g<n0\/n1<=g):=λg hg=>by
         rcases jf with h|⟨g2,h2,h3⟩
         .exact jh.out g (h.symm.trans hg)
         .rw[h2]at hg;injection hg with hg;omega
        have S8:w5.heap.size<=w8.heap.size:=Nat.le_trans tQ cT.size;clear dF cT jf M7 hb6 ay fV cj hC lA qp;go_wp2;go_roundw
        .exact⟨j+1,p8,m8,c8,Q,RP,rfl,yP.out,yH,M8,S8,B8⟩
        .simp[intOf];omega
      .have jd:j=L.length:=Q
       have lP:Hid (Zf wq w.heap.size (U p m c) (uj r E (k+1)).1):=by rw[HS.out];simp only;rw[<- HL.out];rw[jd,List.take_length]at bI;exact bI
       have mC:¬(j:Int)<(L.length:Int):=Q;have lN:Hid ((uj r E (k+1)).2=253402300799):=by simp only[Hid];rw[HS.out]
       clear jd;go_wp2;go_roundw
       .exact⟨k+1,p,m,c,Q,rfl,by rw[lN.out],RP,lP.out,rQ,dt⟩
       .simp[intOf];omega
    .have hq:((k:Int)==(E.length:Int)-1)=false:=RO
     have fY:=fY hla;have Bb:=jqr e H n0 nF K cap b w3 eN mF eR.unt.1 eR.unt.2 eR.off.1 eR.off.2 (λt=>(nD.out t).1);simp only[ZH.v]at Bb;have ou:b<=OV e H b/\OV e H b<=253402300799:=by unfold OV;omega
     clear mh hla;generalize OV e H b=en at *;go_wp2_with fail;refine Bb.mono ?_;rintro q w4 ⟨rfl,dH⟩;have aR:=Zp ax dH;have dX:=uZ dE dH;have Md:=nc.below dH;have JF:n0<=w4.heap.size:=by have h1:=dH.size;omega
     have vn:nF<=w4.heap.size:=by have h1:=dH.size;omega
     have m9:=eN.mid (Mid.of_below dH mF);have zh:=YR dH fM;have zl:=YR dH eJ;have zr:=YR dH fN;have zy:=YR dH fO;have zC:=YR dH fP;have zG:=YR dH fQ;clear Bb dH nc dE eN fM eJ fN fO fP fQ ax;by_cases hbe:b<en
     .rw[if_pos hbe]at fY
      have HS:=hid fY;have eD:=je1 H a2 fJ b en w4 Md jA;clear fY;go_wp2_with fail;refine eD.mono ?_;rintro q w5 ⟨vL,L,rfl,pR,us,md,aV⟩;have HL:Hid (GB (yO e H) L T0=GB (yO e H) (vaG b (yM H b en)) T0):=jks (yO e H) us md T0;have ma:L.length<=2001:=by have h1:=md.length_eq;have h2:=jdo H b en;simp only[List.length_cons]at h1;omega
      have⟨aL,mL,cL,CE⟩:=Dt pR;subst CE;have sf:0<L.length:=by have h1:=md.length_eq;simp only[List.length_cons]at h1;omega
      have⟨gL,ze,jB,_,lu,un,uo⟩:=pR.open sf;injection jB with hLv1 hLv2 hLv3
      subst hLv1 hLv2 hLv3;have sW:=hid uo;have bG:=Zp aR aV;have m5:Mid n0 nF w4 w5:=Mid.of_below aV vn;have jz:=m9.mid m5;have iT:=YR aV zh;have iU:=YR aV zl;have iV:=YR aV zr;have iW:=YR aV zy;have iX:=YR aV zC;have iY:=YR aV zG;have fe:=uZ dX aV;have tO:nF<=w5.heap.size:=Nat.le_trans vn aV.size;have⟨n1,iO⟩:=ZL w5.heap.size;have pN:gL<n1:=by rw[<- iO];exact lu
      have pM:n0<=gL:=Nat.le_trans JF un;have Cm:nF<=n1:=by rw[<- iO];exact tO
      have kF:∀g,(U a6 m6 c6).ownBlock=some g->g<n0\/n1<=g:=λg hg=>.inl (jg g hg)
      have bT:n0<n1:=Q;have qH:n1<=w5.heap.size:=Q;have vK:w.heap.size<=n0:=qN;clear pR us md uo aV lu un iO tO;go_wp2;go_loopw [6,61] (λs6 rA wq=>∃(j:Nat) (p:Option Addr) (m c:Nat),j<=L.length/\rA=J j/\s6=U p m c/\Zf wq w.heap.size (U p m c) (GB (yO e H) (L.take j) T0)/\Hid (∀g,(U p m c).ownBlock=some g->g<n0\/n1<=g)/\Mid n0 n1 w5 wq/\w5.heap.size<=wq.heap.size/\Bw w wq) (λ_ rA _=>L.length-(intOf rA).toNat)
      .exact⟨0,a6,m6,c6,Q,rfl,rfl,fe,kF,Mid.refl _ _ _,ZD _,bG⟩
      ·
       have⟨wq,qQ⟩:=wL wr;subst qQ;obtain⟨j,p,m,c,hj,rfl,rfl,bI,jh,du,iQ,dt⟩:=hrel;by_cases eP:j<L.length
       .have⟨t,ht⟩:=DV eP
        have ct:wq.cell? ⟨gL,j,none⟩=some (J t):=du.cell pM pN (sW.out j t ht);have lj:Hid (GB (yO e H) (L.take (j+1)) T0=LP (GB (yO e H) (L.take j) T0) (yO e H t)):=by simp only[Hid];rw[List.take_add_one,ht];exact jgk _ _ _ _
        have oj:(GB (yO e H) (L.take j) T0).length<=100000:=by
         have h1:=jec (yO e H) (L.take j) T0;have h2:(L.take j).length<=L.length:=by rw[List.length_take];omega
         omega
        have⟨TT,eD⟩:=ZL (GB (yO e H) (L.take j) T0);rw[eD]at bI lj oj;have qW:=du.cell (ZD _) bT iT;have qX:=du.cell (ZD _) bT iU;have qY:=du.cell (ZD _) bT iV;have qZ:=du.cell (ZD _) bT iW;have r8:=du.cell (ZD _) bT iX;have r9:=du.cell (ZD _) bT iY;have bY:Bw w wq.drew:=dt.trans ((rW wq).mono dt.size);have hC:=jz.tell wq.drew t (λg h1 h2=>du g h1 Q);have xZ:=jz.go;have⟨⟨rC,rD⟩,Mf⟩:=nD.out t;have lA:=λw1 hM=>ji2 e (Mv e H t) t w1 hM (by have:=BW;omega) Q iI sB rC rD
        have nJ:Hid (yO e H t=jdl e (Mv e H t) t):=rfl;have qp:=λw1 h1 h2=>jfu TT (jdl e (Mv e H t) t) (U p m c) w.heap.size w1 h1 h2 oj
        generalize Mv e H t=F at *;obtain⟨fa,fs,fl⟩:=F;generalize jdl e ⟨fa,fs,fl⟩ t=X at *;obtain⟨xa,xo,xs,xb⟩:=X;simp only[Z5.v,ZK.v,ZH.v]at hC lA qp;have Bu:Zf wq.drew w.heap.size (U p m c) TT:=bI;have qG:MxA wq.drew:=MxA.of_below ut bY;have mC:(j:Int)<(L.length:Int):=Q;have fi:∀g,(U p m c).ownBlock=some g->¬g=n0:=λg hg=>by have:=jh.out g hg;omega
        have mQ:∀g,(U p m c).ownBlock=some g->w.heap.size<=g:=λg hg=>(World.ownsRow.lt bI g hg).1
        clear ht eD;go_wp2_with fail;go_region_held3 (λw'=>w'.cell? ⟨n0,0,none⟩=some (J e.Zq)/\w'.cell? ⟨n0,1,none⟩=some (I e.Vv)/\w'.cell? ⟨n0,2,none⟩=some (J e.YX)/\w'.cell? ⟨n0,3,none⟩=some (I e.mr)/\w'.cell? ⟨n0,4,none⟩=some (J e.ZO)/\w'.cell? ⟨n0,5,none⟩=some (I e.of)) (go_keep) (first|(refine hC.mono ?_;rintro q6 w6 ⟨rfl,hb6⟩;have re:=YR hb6 qW;have ri:=YR hb6 qX;have rk:=YR hb6 qY;have rm:=YR hb6 qZ;have rr:=YR hb6 r8;have ru:=YR hb6 r9;have fV:Zf w6 w.heap.size (U p m c) TT:=uZ Bu hb6;have Ch:=MxA.of_below qG hb6;have cp:Bw w w6:=Zp bY hb6)|(go_at_call 269;refine(lA _ Ch).mono ?_;rintro q7 w7 ⟨rfl,ay⟩;have rf:=YR ay re;have rj:=YR ay ri;have rl:=YR ay rk;have rp:=YR ay rm;have rt:=YR ay rr;have ry:=YR ay ru;have cj:Zf w7 w.heap.size (U p m c) TT:=uZ fV ay;have dz:Bw w w7:=Zp cp ay)|(go_at_call 268;refine(qp _ cj dz.size).mono ?_;rintro q8 w8 ⟨v8,rfl,dF,cT,jf⟩;obtain⟨p8,m8,c8,rfl⟩:=Dt dF;have Df:=cT.cell (λhg=>fi _ hg rfl) rf;have Dj:=cT.cell (λhg=>fi _ hg rfl) rj;have Dl:=cT.cell (λhg=>fi _ hg rfl) rl;have Dn:=cT.cell (λhg=>fi _ hg rfl) rp;have Dp:=cT.cell (λhg=>fi _ hg rfl) rt;have Dr:=cT.cell (λhg=>fi _ hg rfl) ry))
        all_goals
         have tQ:w5.heap.size<=w7.heap.size:=by have h1:=hb6.size;have h2:=ay.size;have h3:wq.drew.heap.size=wq.heap.size:=rfl;omega
         have M7:Mid n0 n1 w5 w7:=(du.trans (Mid.of_below (n0:=n0) (n1:=n1) (rW wq) Q)).trans ((Mid.of_below (n0:=n0) (n1:=n1) hb6 (by have h3:wq.drew.heap.size=wq.heap.size:=rfl;omega)).trans (Mid.of_below (n0:=n0) (n1:=n1) ay (by have h1:=hb6.size;have h3:wq.drew.heap.size=wq.heap.size:=rfl;omega)));have M8:Mid n0 n1 w5 w8:=M7.trans λg h1 h2=>cT.block g Q λhg=>by have:=jh.out g hg;omega
         have B8:Bw w w8:=dz.trans (cT.below (λg hg=>mQ g hg) dz.size);have yP:Hid (Zf w8 w.heap.size (U p8 m8 c8) (GB (yO e H) (L.take (j+1)) T0)):=by rw[lj.out,nJ.out];exact dF
         have yH:Hid (∀g,(U p8 m8 c8).ownBlock=some g->g<n0\/n1<=g):=λg hg=>by
          rcases jf with h|⟨g2,h2,h3⟩
          .exact jh.out g (h.symm.trans hg)
          .rw[h2]at hg;injection hg with hg;omega
         have S8:w5.heap.size<=w8.heap.size:=Nat.le_trans tQ cT.size;clear dF cT jf M7 hb6 ay fV cj hC lA qp;go_wp2;go_roundw
         .exact⟨j+1,p8,m8,c8,Q,RP,rfl,yP.out,yH,M8,S8,B8⟩
         .simp[intOf];omega
       .have jd:j=L.length:=Q
        have lP:Hid (Zf wq w.heap.size (U p m c) (uj r E (k+1)).1):=by rw[HS.out];simp only;rw[<- HL.out];rw[jd,List.take_length]at bI;exact bI
        have mC:¬(j:Int)<(L.length:Int):=Q;have lN:Hid ((uj r E (k+1)).2=en):=by simp only[Hid];rw[HS.out]
        clear jd;go_wp2;go_roundw
        .exact⟨k+1,p,m,c,Q,rfl,by rw[lN.out],RP,lP.out,rQ,dt⟩
        .simp[intOf];omega
     .rw[if_neg hbe]at fY
      have lP:Hid (Zf w4 w.heap.size (U a6 m6 c6) (uj r E (k+1)).1):=by rw[fY];exact dX
      have lN:Hid ((uj r E (k+1)).2=en):=by simp only[Hid];rw[fY]
      clear fY;go_wp2;go_roundw
      .exact⟨k+1,a6,m6,c6,Q,rfl,by rw[lN.out],RP,lP.out,rQ,aR⟩
      .simp[intOf];omega
  .have kD:k=E.length:=Q
   have HX:Hid (vay r E=((uj r E k).1,decide ((uj r E k).1.length<=600))):=by simp only[Hid,vay];rw[kD]at iA ⊢;rw[iA.out];rfl
   have eY:¬(k:Int)<(E.length:Int):=Q;have⟨⟨T0,b⟩,ei⟩:=ZL (uj r E k);rw[ei]at hT f8 HX fg;simp only at hT f8 HX fg;subst f8;have hm:m6=T0.length:=by
    have⟨a,cap,h,_⟩:=hT.seq;injection h
   subst hm;clear kD ei;by_cases h6:T0.length<=600
   .have AM:(T0.length:Int)<=600:=Q
    rw[rT h6]at HX;go_wp2;exact ZM (v:=.tuple #[U a6 T0.length c6,.bool true]) (by simp[results,Tryz.results238,go_sem]) rfl ⟨⟨_,_,T0,rfl,hT,HX.out,hB⟩⟩
   .have AM:¬(T0.length:Int)<=600:=Q
    rw[dfe h6]at HX;go_wp2;exact ZM (v:=.tuple #[U a6 T0.length c6,.bool false]) (by simp[results,Tryz.results238,go_sem]) rfl ⟨⟨_,_,T0,rfl,hT,HX.out,hB⟩⟩
def uC(r:ZW)(nm:ByteArray):Int × List ZK:=
 if nm.size<=8000 then(if ZZ r=true then(if (xP r nm).ZC=[]then(5,[])else(if (vay r (xP r nm).ZC).2=true then(0,(vay r (xP r nm).ZC).1)else(7,[])))else(1,[]))else(2,[])
theorem j0y(h:¬nm.size<=8000):uC r nm=(2,[]):=if_neg h
theorem j0z(h:nm.size<=8000)(h2:ZZ r=false):uC r nm=(1,[]):=by unfold uC;rw[if_pos h,if_neg (by rw[h2];simp)]
theorem ju5(h:nm.size<=8000)(h2:ZZ r=true)(h3:(xP r nm).ZC=[]):uC r nm=(5,[]):=by unfold uC;rw[if_pos h,if_pos h2,if_pos h3]
theorem ju4(h:nm.size<=8000)(h2:ZZ r=true)(h3:(xP r nm).ZC≠[])(h4:vay r (xP r nm).ZC=(T,false)):uC r nm=(7,[]):=by unfold uC;rw[if_pos h,if_pos h2,if_neg h3,h4];rfl
theorem ju6(h:nm.size<=8000)(h2:ZZ r=true)(h3:(xP r nm).ZC≠[])(h4:vay r (xP r nm).ZC=(T,true)):uC r nm=(0,T):=by unfold uC;rw[if_pos h,if_pos h2,if_neg h3,h4];rfl
theorem vhg(h:vaZ e=true):vbM e:=by
 unfold vaZ at h;simp only[vB,decide_eq_true_eq]at h;have⟨h1,h2,h3,h4,h5,h6,_⟩:=h;have hf:=Nb h4;unfold erB at h3;refine⟨⟨h1,h2⟩,⟨h5,h6⟩,hf.2.1,λh0=>?_,?_⟩
 .have hE:e.Vv.toList.isEmpty=true:=by
   rw[vbh,List.isEmpty_iff, <- List.length_eq_zero_iff,Rm];exact h0
  rw[if_pos hE]at h3;exact jax h3
 .split at h3
  .rename_i hE
   rw[vbh,List.isEmpty_iff, <- List.length_eq_zero_iff,Rm]at hE;omega
  .simp only[vB]at h3
   exact(jf8 h3.1).2.1
theorem je7(h:ZZ r=true)(az:(xP r nm).ZC≠[]):MY (xP r nm)=true/\∃i,jbg r.YU (jba r.YW nm)=some i/\r.YU[i]? =some (xP r nm):=by
 have hz:∀z∈r.YU,MY z=true:=by
  have h':=h;unfold ZZ at h';simp only[vB,List.all_eq_true]at h';exact h'.2.2.1
 unfold xP at az ⊢;rw[if_pos h]at az ⊢;split at az
 .rename_i i hi
  split at az
  .rename_i z aF
   simp only[hi];exact⟨hz z (ui aF),i,rfl,aF⟩
  .exact absurd rfl az
 .exact absurd rfl az
theorem jhv(h:MY z=true):(1<=z.ZC.length/\z.ZC.length<=8)/\∀e∈z.ZC,vbM e:=by
 unfold MY at h;simp only[vB,List.all_eq_true]at h;exact⟨Nb h.2.1,λe he=>vhg (h.2.2.1 e he)⟩
theorem jav{b:Nat}{x0 x1:Value}(h0:w.cell? ⟨b,0,none⟩=some x0)(h1:w.cell? ⟨b,1,none⟩=some x1):
  ((w.setCell ⟨b,0,none⟩ v0).setCell ⟨b,1,none⟩ v1).cell? ⟨b,0,none⟩=some v0/\((w.setCell ⟨b,0,none⟩ v0).setCell ⟨b,1,none⟩ v1).cell? ⟨b,1,none⟩=some v1:=by
 refine⟨?_,?_⟩
 .rw[ZT _ _ _ _ M,Bf _ _ _ h0]
 .refine Bf _ _ _ (u:=x1) ?_
  rw[ZT _ _ _ _ M];exact h1
structure Jt(r:ZW)(nm:ByteArray)(w:World)(q:Ending)(W':World):Prop where
 ex:∃v,q=V (.agg #[v,J (uC r nm).1])/\Zf W' w.heap.size v (uC r nm).2/\Bw w W'
theorem jcs{w1:World}{c:Int}{b:Nat}(h:uC r nm=(c,[]))(hB:Bw w w1)(hb:w.heap.size<=b):Jt r nm w (V (.agg #[nS,J c])) ((w1.setCell ⟨b,0,none⟩ nS).setCell ⟨b,1,none⟩ (J c)):=by
 refine⟨nS,by rw[h],by rw[h];exact World.ownsRow_nil _ _ _ _,(hB.setCell hb _).setCell hb _⟩
theorem jrh(h:BF x=true):BH x.name=true:=by
 unfold BF at h;simp only[vB]at h;exact h.1
theorem jor(r:ZW)(v:Value)(nm:ByteArray)(w:World)(cg:Zx w)(hv:Zd w v r)(ok:r.ok)(sm:r.small)(di:∀x∈r.Vv,x.on.size<=1048576)(hm:nm.size<=maxLen):
  C 202 #[v,I nm] w λq W'=>Jt r nm w q W':=by
 unfold maxLen at hm;obtain⟨a,b,c,ca,cb,cc,rfl,hA,lV,nP⟩:=hv.form;have hv:Zd w (.agg #[U a r.Vv.length ca,U b r.YU.length cb,U c r.YW.length cc]) r:=⟨⟨a,b,c,ca,cb,cc,rfl,hA,lV,nP⟩⟩;clear lV nP;have ag:=(ZA w (G #[U a r.Vv.length ca,U b r.YU.length cb,U c r.YW.length cc] 27)).alloc M (G #[nS,J 0] 160);obtain⟨fp,fq,ft,dJ,dK,fc,fd⟩:(λz:World=>z.cell? ⟨w.heap.size,0,none⟩=some (U a r.Vv.length ca)/\z.cell? ⟨w.heap.size,1,none⟩=some (U b r.YU.length cb)/\z.cell? ⟨w.heap.size,2,none⟩=some (U c r.YW.length cc)/\z.cell? ⟨w.heap.size+1,0,none⟩=some nS/\z.cell? ⟨w.heap.size+1,1,none⟩=some (J 0)/\z.frozen? ⟨w.heap.size+1,0,none⟩=false/\z.frozen? ⟨w.heap.size+1,1,none⟩=false) ((w.alloc (G #[U a r.Vv.length ca,U b r.YU.length cb,U c r.YW.length cc] 27)).alloc (G #[nS,J 0] 160)):=RQ;by_cases h1:nm.size<=8000
 case neg=>
  have g1:(8000:Int)<(nm.size:Int):=Q;have HT:Hid (uC r nm=(2,[])):=j0y h1;have HP:Hid (Jt r nm w (V (.agg #[nS,J 2])) ((w.alloc (G #[U a r.Vv.length ca,U b r.YU.length cb,U c r.YW.length cc] 27)).alloc (G #[nS,J 2] 160))):=⟨nS,by rw[HT.out],by rw[HT.out];exact World.ownsRow_nil _ _ _ _,(ZA w _).alloc M _⟩;clear h1 HT;unfold C;go_in;go_wp2;exact ZM (v:=.agg #[nS,J 2]) (by simp[results,Tryz.results202,go_sem]) rfl HP.out
 have g1:¬(8000:Int)<(nm.size:Int):=Q;have hR:=λw hE (h:Zd w (.agg #[U a r.Vv.length ca,U b r.YU.length cb,U c r.YW.length cc]) r)=>jbr r _ w hE h ok sm di
 cases h2:ZZ r
 case false=>
  have HT:Hid (uC r nm=(1,[])):=j0z h1 h2;rw[h2]at hR;clear h2 h1;unfold C;go_in;go_wp2_with fail;refine(hR _ (cg.of_below ag) (hv.below ag)).mono ?_;rintro q w1 ⟨rfl,hb1⟩;have aj:=Zp ag hb1;have eU:=YR hb1 fp;have eV:=YR hb1 fq;have eW:=YR hb1 ft;have dx:=YR hb1 dJ;have dL:=YR hb1 dK;have gO:=AZ hb1 dJ fc;have gP:=AZ hb1 dK fd;clear hb1 fp fq ft dJ dK fc fd;have⟨t0,t1⟩:=jav (v0:=nS) (v1:=J 1) dx dL;have HP:Hid (Jt r nm w (V (.agg #[nS,J 1])) ((w1.setCell ⟨w.heap.size+1,0,none⟩ nS).setCell ⟨w.heap.size+1,1,none⟩ (J 1))):=jcs HT.out aj Q;go_wp2;exact ZM (v:=.agg #[nS,J 1]) (by simp[results,Tryz.results202,go_sem,t0,t1]) rfl HP.out
 have NH:=hid h2;have hl:=jid h2;have vd:=hl.1;have HL:Hid (∀x∈r.Vv,BF x=true):=hl.2;have hZ:=λw hE (h:Zd w (.agg #[U a r.Vv.length ca,U b r.YU.length cb,U c r.YW.length cc]) r)=>jfe r _ nm w hE h ok sm di
 have hN:=λw (h:Za w a 9 (r.Vv.map ZQ.cs))=>jhd r.Vv a ca w h vd (λx hx=>by have:=(jf8 (jrh (HL.out x hx))).2.1;unfold maxLen;omega)
 have nT:=λh=>ju5 (nm:=nm) h1 h2 h
 have py:=λT h h'=>ju4 (nm:=nm) (T:=T) h1 h2 h h'
 have pu:=λT h h'=>ju6 (nm:=nm) (T:=T) h1 h2 h h'
 have qd:=λh=>je7 (nm:=nm) h2 h
 rw[h2]at hR;have⟨⟨zn,E⟩,mS⟩:=ZL (xP r nm);rw[mS]at hZ nT py pu qd;simp only at hZ nT py pu qd;clear h2 hl mS;unfold C;go_in;go_wp2_with fail;refine(hR _ (cg.of_below ag) (hv.below ag)).mono ?_;rintro q w1 ⟨rfl,hb1⟩;have aj:=Zp ag hb1;have eU:=YR hb1 fp;have eV:=YR hb1 fq;have eW:=YR hb1 ft;have dx:=YR hb1 dJ;have dL:=YR hb1 dK;have gO:=AZ hb1 dJ fc;have gP:=AZ hb1 dK fd;clear hb1 hR fp fq ft dJ dK fc fd;go_wp2_with fail;refine(hZ _ (cg.of_below aj) (hv.below aj)).mono ?_;rintro q w2 ⟨vz,rfl,uB,ac⟩;have an:=Zp aj ac;have wT:=YR ac eU;have wU:=YR ac eV;have wV:=YR ac eW;have ip:=YR ac dx;have kW:=YR ac dL;have oW:=AZ ac dx gO;have tH:=AZ ac dL gP;clear ac hZ eU eV eW dx dL gO gP;rcases uB with⟨jy,rfl⟩|⟨g,cap,rfl,hgB,FU,hSE,_⟩
 .have HT:Hid (uC r nm=(5,[])):=nT jy
  have qA:∀w,(Instr.field 120 (.agg #[I zn,nS]) 1).run Tryz.prog w=.ok nS w:=λ_=>RG
  clear nT py pu qd hN;have⟨t0,t1⟩:=jav (v0:=nS) (v1:=J 5) ip kW;have HP:Hid (Jt r nm w (V (.agg #[nS,J 5])) ((w2.setCell ⟨w.heap.size+1,0,none⟩ nS).setCell ⟨w.heap.size+1,1,none⟩ (J 5))):=jcs HT.out an Q;go_wp2;exact ZM (v:=.agg #[nS,J 5]) (by simp[results,Tryz.results202,go_sem,t0,t1]) rfl HP.out
 .have qA:∀w,(Instr.field 120 (.agg #[I zn,U (some ⟨g,0,none⟩) E.length cap]) 1).run Tryz.prog w=.ok (U (some ⟨g,0,none⟩) E.length cap) w:=λ_=>RG
  by_cases eu:E=[]
  .subst eu
   simp only[List.length_nil]at qA;have HT:Hid (uC r nm=(5,[])):=nT rfl;clear nT py pu qd hN;have⟨t0,t1⟩:=jav (v0:=nS) (v1:=J 5) ip kW;have HP:Hid (Jt r nm w (V (.agg #[nS,J 5])) ((w2.setCell ⟨w.heap.size+1,0,none⟩ nS).setCell ⟨w.heap.size+1,1,none⟩ (J 5))):=jcs HT.out an Q;go_wp2;exact ZM (v:=.agg #[nS,J 5]) (by simp[results,Tryz.results202,go_sem,t0,t1]) rfl HP.out
  .have⟨lZ,ud⟩:=jhv (qd eu).1
   simp only at lZ ud;have az:¬E.length=0:=Q;have Kp:¬(E.length:Int)=0:=Q;go_wp2_with fail;refine(hN _ (hA.below an)).mono ?_;rintro q w3 ⟨rfl,gT,ar⟩;have ax:=Zp an ar;have rH:=YR ar wT;have rI:=YR ar wU;have rJ:=YR ar wV;have kU:=YR ar ip;have mW:=YR ar kW;have oX:=AZ ar ip oW;have oY:=AZ ar kW tH;have qm:=jof r E (some ⟨g,0,none⟩) cap w2.heap.size (w2.heap.size+1) w3 (hSE.below ar) gT (cg.of_below ax) HL.out vd ud lZ.2;clear ar hN wT wU wV ip kW oW tH;go_wp2_with fail;refine qm.mono ?_;rintro q w4 ⟨v4,bb,T,rfl,dX,jE,aD⟩;have aR:=Zp ax aD;have MM:=YR aD rH;have MO:=YR aD rI;have MP:=YR aD rJ;have vY:=YR aD kU;have we:=YR aD mW;have II:=AZ aD kU oX;have IK:=AZ aD mW oY;obtain⟨a7,m7,d7,rfl⟩:=Dt dX;cases bb with
   |false=>
    have HT:Hid (uC r nm=(7,[])):=py T eu jE;clear aD qm jE nT py pu qd dX rH rI rJ kU mW oX oY;have⟨t0,t1⟩:=jav (v0:=nS) (v1:=J 7) vY we;have HP:Hid (Jt r nm w (V (.agg #[nS,J 7])) ((w4.setCell ⟨w.heap.size+1,0,none⟩ nS).setCell ⟨w.heap.size+1,1,none⟩ (J 7))):=jcs HT.out aR Q;go_wp2;exact ZM (v:=.agg #[nS,J 7]) (by simp[results,Tryz.results202,go_sem,t0,t1]) rfl HP.out
   |true=>
    have HT:Hid (uC r nm=(0,T)):=pu T eu jE;have dh:∀g,(U a7 m7 d7).ownBlock=some g->w3.heap.size<=g:=λg hg=>(World.ownsRow.lt dX g hg).1
    have gm:w.heap.size+1<w3.heap.size:=ZI kU
    have HP:Hid (Jt r nm w (V (.agg #[U a7 m7 d7,J 0])) ((w4.setCell ⟨w.heap.size+1,0,none⟩ (U a7 m7 d7)).setCell ⟨w.heap.size+1,1,none⟩ (J 0))):=⟨U a7 m7 d7,by rw[HT.out],by
     rw[HT.out];have h1:=Ez dX ax.size
     exact World.ownsRow.kept (World.ownsRow.kept h1 (jck w4 _ 0 _) (by cases hv:(U a7 m7 d7).ownBlock with
      |none=>exact .inl rfl
      |some g=>exact .inr λe=>by have:=dh g hv;injection e with e;omega)) (jck _ _ 1 _) (by cases hv:(Value.slice a7 m7 d7).ownBlock with
      |none=>exact .inl rfl
      |some g=>exact .inr λe=>by have:=dh g hv;injection e with e;omega),(aR.setCell (vQs _) _).setCell (vQs _) _⟩
    have⟨t0,t1⟩:=jav (v0:=U a7 m7 d7) (v1:=J 0) vY we;clear aD qm jE nT py pu qd dX rH rI rJ kU mW oX oY;go_wp2;exact ZM (v:=.agg #[U a7 m7 d7,J 0]) (by simp[results,Tryz.results202,go_sem,t0,t1]) rfl HP.out
def vcW(E:List ZH):Prop:=∀k e,E[k]? =some e->(e.ZO=253402300799↔k+1=E.length)
theorem jyf:∀{E:List ZH},upB E=true->∀{i j:Nat} {x y:ZH},i<j->E[i]? =some x->E[j]? =some y->x.ZO<y.ZO:=by
 intro E
 induction E with
 |nil=>intro _ i j x y _ hx;simp at hx
 |cons a E ih=>
  intro h i j x y eF hx hy;cases E with
  |nil=>
   cases j with
   |zero=>omega
   |succ j=>simp at hy
  |cons b E=>
   rw[upB,vB]at h;have h1:=Nb h.1;cases j with
   |zero=>omega
   |succ j=>
    rw[List.getElem?_cons_succ]at hy;cases i with
    | zero=>
     simp at hx;subst hx;cases j with
     |zero=>simp at hy;subst hy;exact h1
     |succ j=>
      have:=ih h.2 (i:=0) (j:=j+1) (x:=b) (y:=y) Q rfl hy;omega
    |succ i=>exact ih h.2 (i:=i) (j:=j) Q (by simpa using hx) hy
theorem jx3(h:MY z=true):vcW z.ZC:=by
 unfold MY at h;simp only[vB]at h;have⟨_,hl,_,hu,hla⟩:=h;have hl:=Nb hl;intro k e he;have eY:=(pO he).1;obtain⟨f,hf⟩:∃f,z.ZC[z.ZC.length-1]? =some f:=⟨_,ZV Q⟩;unfold vco at hla;rw[hf]at hla;simp only[vB,beq_iff_eq]at hla;constructor
 .intro h1
  rcases Nat.lt_or_ge (k+1) z.ZC.length with h2|h2
  .have:=jyf hu (i:=k) (j:=z.ZC.length-1) Q he hf
   omega
  .omega
 .intro h1
  have:k=z.ZC.length-1:=Q;subst this;rw[hf]at he;injection he with he
  subst he;exact hla.1
theorem jxk(hU:vcW E){k:Nat}{e:ZH}(he:E[k]? =some e)(h:k+1=E.length)(H:List Z5)(b:Int):vbT e H b=253402300799:=if_pos ((hU k e he).mpr h)
theorem jxj(hU:vcW E){k:Nat}{e:ZH}(he:E[k]? =some e)(h:¬k+1=E.length)(H:List Z5)(b:Int):vbT e H b=OV e H b:=if_neg λh1=>h ((hU k e he).mp h1)
theorem jk2{off:Int}(hr:∀x∈r.Vv,BF x=true)(h0:nm.size=0):Fg r nm off=([],true):=by
 have hw:∀k,LZ nm r.Vv k=[]:=by
  intro k
  induction k with
  |zero=>rfl
  |succ k ih=>
   rw[LZ,ih];split
   .rename_i x hx
    split
    .rename_i hn
     have h1:=(jf8 (jrh (hr x (ui hx)))).1;have h2:x.name=nm:=jhz (beq_iff_eq.mp hn);rw[h2]at h1;omega
    .rfl
   .rfl
 unfold Fg;rw[hw,if_pos M];rfl
structure Jl(s:Nat)(v0 v1 v2 z0 z1:Value)(W:World):Prop where
 x0:W.cell? ⟨s,0,none⟩=some v0
 x1:W.cell? ⟨s,1,none⟩=some v1
 x2:W.cell? ⟨s,2,none⟩=some v2
 y0:W.cell? ⟨s+1,0,none⟩=some z0
 y1:W.cell? ⟨s+1,1,none⟩=some z1
 r0:W.cell? ⟨s+1+1,0,none⟩=some nS
 f0:W.frozen? ⟨s+1+1,0,none⟩=false
 t:∃u,W.cell? ⟨s+1+1+1,0,none⟩=some u
 f1:W.frozen? ⟨s+1+1+1,0,none⟩=false
theorem Jl.fr{S:Nat->Prop}(h:Jl s v0 v1 v2 z0 z1 W)(hf:Fr S W W')(hs:∀g,S g->s+1+1+1+1<=g):Jl s v0 v1 v2 z0 z1 W':=by
 have n:∀k,k<s+1+1+1+1->¬S k:=λk hk h=>by have:=hs k h;omega
 have⟨u,hu⟩:=h.t;exact⟨hf.cell (n _ Q) h.x0,hf.cell (n _ Q) h.x1,hf.cell (n _ Q) h.x2,hf.cell (n _ Q) h.y0,hf.cell (n _ Q) h.y1,hf.cell (n _ Q) h.r0,(hf.frozen (ZI h.r0) (n (s+1+1) Q)).trans h.f0,⟨u,hf.cell (n _ Q) hu⟩,(hf.frozen (ZI hu) (n (s+1+1+1) Q)).trans h.f1⟩
theorem Jl.below(h:Jl s v0 v1 v2 z0 z1 W)(hb:Bw W W'):Jl s v0 v1 v2 z0 z1 W':=h.fr (S:=λ_=>False) (Fr.of_below hb) λ_ h=>h.elim
theorem Jl.set(h:Jl s v0 v1 v2 z0 z1 W)(u:Value):Jl s v0 v1 v2 z0 z1 (W.setCell ⟨s+1+1+1,0,none⟩ u):=by
 have⟨v,hv⟩:=h.t;refine⟨?_,?_,?_,?_,?_,?_,by rw[World.frozen?_setCell];exact h.f0,⟨u,Bf _ _ _ hv⟩,by rw[World.frozen?_setCell];exact h.f1⟩
 .rw[ZT _ _ _ _ M];exact h.x0
 .rw[ZT _ _ _ _ M];exact h.x1
 .rw[ZT _ _ _ _ M];exact h.x2
 .rw[ZT _ _ _ _ M];exact h.y0
 .rw[ZT _ _ _ _ M];exact h.y1
 .rw[ZT _ _ _ _ M];exact h.r0
structure vcV(r:ZW)(E:List ZH)(w:World)(q:Ending)(W':World):Prop where
 ex:∃v b T,q=V (.tuple #[.agg #[v],.bool b])/\Zf W' w.heap.size v T/\b=(vay r E).2/\(b=true->T=(vay r E).1)/\Bw w W'
