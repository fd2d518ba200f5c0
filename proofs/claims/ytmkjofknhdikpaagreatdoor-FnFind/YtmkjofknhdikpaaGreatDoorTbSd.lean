import Derived.Test.YtmkjofknhdikpaaGreatDoorZonePd
import Derived.Test.YtmkjofknhdikpaaGreatDoorTsPd
set_option maxRecDepth 20000
set_option maxHeartbeats 0
set_option linter.unusedSimpArgs false
open Go.RowKit Go.Sort
namespace Go.Proofs.YtmkjofknhdikpaaGreatDoor
variable{e:TX}{r:Un}{E:List TX}{k s:Nat}{T:List Ub}{b:Int}{x:Ud}{nm:ByteArray}{z:UE}{W W' w:World}{v0 v1 v2 z0 z1:Value}
structure vau(e:TX):Prop where
 off: -86400<=e.TI/\e.TI<=86400
 unt: -62135596800<=e.Ua/\e.Ua<=253402300799
 fmt:e.Uz.size<=12
 sav:e.Tw.size=0-> -7200<=e.TF/\e.TF<=7200
 nam:e.Tw.size<=20
theorem jmk{H:List Ur}(he:vau e)(hH:∀h∈H,vcA h)(t:Int):(-7200<=(Vz e H t).TF/\(Vz e H t).TF<=7200)/\(Vz e H t).Uc.size<=6:=by
 by_cases h0:e.Tw.size=0
 .rw[jjm h0]
  exact⟨he.sav h0,by simp[ByteArray.size]⟩
 .rw[jen h0]
  cases hc:hcnt H t with
  | zero=>
   refine⟨by simp[Zp],?_⟩
   show(Xu H).size<=6
   clear hc
   induction H with
   |nil=>simp[Xu,ByteArray.size]
   |cons a H ih=>
    rw[Xu];split
    .exact(hH a M).Uc
    .exact ih λh hh=>hH h (VW _ hh)
  |succ m=>
   obtain⟨x,hx⟩:∃x,H[m]? =some x:=⟨_,Ug (by have:=jwz H t;omega)⟩;have hB:=hH x (UH hx);simp only[Zp];rw[hx];exact⟨hB.TF,hB.Uc⟩
def j26(r:Un)(last:Bool)(e:TX)(st:List Ub × Int):List Ub × Int:=
 if last=true then(Vm (UZ e (Vg r e.Tw e.TI).1) (Xn st.2 (UX (Vg r e.Tw e.TI).1 st.2 253402300799)) st.1,253402300799)
 else(if st.2<VT e (Vg r e.Tw e.TI).1 st.2 then Vm (UZ e (Vg r e.Tw e.TI).1) (Xn st.2 (UX (Vg r e.Tw e.TI).1 st.2 (VT e (Vg r e.Tw e.TI).1 st.2))) st.1 else st.1,VT e (Vg r e.Tw e.TI).1 st.2)
def UI(r:Un)(E:List TX):Nat->List Ub × Int
 |0=>([], -62135596800)
 |k+1=>match E[k]? with
  |some e=>j26 r (decide (k+1=E.length)) e (UI r E k)
  |none=>UI r E k
def okK(r:Un)(E:List TX):Nat->Bool
 |0=>true
 |k+1=>okK r E k&&(match E[k]? with|some e=>(Vg r e.Tw e.TI).2|none=>true)
def Xf(r:Un)(E:List TX):List Ub × Bool:=if okK r E E.length=true then((UI r E E.length).1,decide ((UI r E E.length).1.length<=600))else([],false)
theorem j04(he:E[k]? =some e)(h:(Vg r e.Tw e.TI).2=false):∀{n:Nat},k<n->okK r E n=false:=by
 intro n
 induction n with
 |zero=>intro hn;omega
 |succ n ih=>
  intro hn;rw[okK];by_cases e1:k=n
  .subst e1;rw[he];simp[h]
  .rw[ih Q];rfl
theorem jvx(he:E[k]? =some e)(h:(Vg r e.Tw e.TI).2=true)(hk:okK r E k=true):okK r E (k+1)=true:=by rw[okK,hk,he];simp[h]
theorem jln(he:E[k]? =some e)(hk:k+1=E.length)(hs:UI r E k=(T,b)):UI r E (k+1)=(Vm (UZ e (Vg r e.Tw e.TI).1) (Xn b (UX (Vg r e.Tw e.TI).1 b 253402300799)) T,253402300799):=by
 rw[UI,he];simp only;rw[Uy hk,hs];rfl
theorem jlm(he:E[k]? =some e)(hk:¬k+1=E.length)(hs:UI r E k=(T,b)):UI r E (k+1)=(if b<VT e (Vg r e.Tw e.TI).1 b then Vm (UZ e (Vg r e.Tw e.TI).1) (Xn b (UX (Vg r e.Tw e.TI).1 b (VT e (Vg r e.Tw e.TI).1 b))) T else T,VT e (Vg r e.Tw e.TI).1 b):=by
 rw[UI,he];simp only;rw[dfe hk,hs];rfl
theorem j1s:∀k,(-62135596800<=(UI r E k).2/\(UI r E k).2<=253402300799)/\(UI r E k).1.length<=2001*k:=by
 intro k
 induction k with
 |zero=>simp[UI]
 |succ k ih=>
  rw[UI];split
  .rename_i e he
   have⟨⟨i1,i2⟩,i3⟩:=ih;have hl:=jea (r:=r) (nm:=e.Tw) (off:=e.TI);generalize (Vg r e.Tw e.TI).1=H at *;have hx:∀n,(Xn (UI r E k).2 (UX H (UI r E k).2 n)).length<=2001:=λn=>by
    have h1:=jjs (UI r E k).2 (UX H (UI r E k).2 n);have h2:=jdo H (UI r E k).2 n;omega
   unfold j26;split
   .refine⟨M,?_⟩
    have h1:=jec (UZ e (Vg r e.Tw e.TI).1) (Xn (UI r E k).2 (UX (Vg r e.Tw e.TI).1 (UI r E k).2 253402300799)) (UI r E k).1;have h2:=jjs (UI r E k).2 (UX (Vg r e.Tw e.TI).1 (UI r E k).2 253402300799);have h3:=jdo (Vg r e.Tw e.TI).1 (UI r E k).2 253402300799;have h4:=jea (r:=r) (nm:=e.Tw) (off:=e.TI)
    show(Vm _ _ _).length<=_
    omega
   .refine⟨?_,?_⟩
    .show _<=VT e _ _/\VT e _ _<=_
     unfold VT;omega
    .show(if _ then _ else _:List Ub).length<=_
     split
     .have h1:=jec (UZ e (Vg r e.Tw e.TI).1) (Xn (UI r E k).2 (UX (Vg r e.Tw e.TI).1 (UI r E k).2 (VT e (Vg r e.Tw e.TI).1 (UI r E k).2))) (UI r E k).1
      have h2:=jjs (UI r E k).2 (UX (Vg r e.Tw e.TI).1 (UI r E k).2 (VT e (Vg r e.Tw e.TI).1 (UI r E k).2));have h3:=jdo (Vg r e.Tw e.TI).1 (UI r E k).2 (VT e (Vg r e.Tw e.TI).1 (UI r E k).2);have h4:=jea (r:=r) (nm:=e.Tw) (off:=e.TI);omega
     .omega
  .omega
structure veX(r:Un)(E:List TX)(w:World)(q:Ending)(W':World):Prop where
 ex:∃v b T,q=V (.tuple #[v,Z b])/\Zf W' w.heap.size v T/\Xf r E=(T,b)/\Bw w W'
theorem jpt{P:List Ud}:∀r∈P.map Ud.cs,r.length=9:=λr hr=>by
 obtain⟨x,_,rfl⟩:=List.mem_map.mp hr;rfl
theorem jvl(h:U5 x=true):onB x.on=true:=by
 unfold U5 at h;simp only[UM]at h;exact h.2.2.2.2.1
theorem jof(r:Un)(E:List TX)(ae:Option Addr)(It mb base:Nat)(w:World)(hE:Za w ae 6 (E.map TX.cs))(hM:Jp w base mb r.Tw)(cg:Zx w)(hr:∀x∈r.Tw,U5 x=true)(fk:r.Tw.length<=40)(hP:∀e∈E,vau e)(hl:E.length<=8):
  C 187 #[U ae E.length It,.map (some mb)] w λq W'=>veX r E w q W':=by
 have HR:=hid hr;have HP:=hid hP;have ut:ZH w:=cg.2;have HM:=hid hM;have HV:=hid cg;clear hr hP hM cg;delta C;go_in;go_wp2;go_loopw [6,7,19] (λs6 s7 Dh wr=>∃(k:Nat) (a6:Option Addr) (m6 c6:Nat),k<=E.length/\s6=U a6 m6 c6/\s7=J (UI r E k).2/\Dh=J k/\Zf wr w.heap.size (U a6 m6 c6) (UI r E k).1/\Hid (okK r E k=true)/\Bw w wr) (λ_ _ Dh _=>E.length-(intOf Dh).toNat)
 .exact⟨0,none,0,0,Q,rfl,rfl,rfl,World.ownsRow_nil _ _ _ _,rfl,Ui _ _⟩
 ·
  obtain⟨k,a6,m6,c6,hk,rfl,f8,rfl,hT,iA,hB⟩:=hrel;have⟨⟨hb1,ac⟩,fg⟩:=j1s (r:=r) (E:=E) k;by_cases hlt:k<E.length
  .obtain ⟨e,he⟩:=Vb hlt
   have eR:=HP.out e (UH he);obtain⟨be,oe,rfl,hc⟩:=(hE.below hB).at (i:=k) (r:=e.cs) (by rw[Uv,he];rfl);have c0:wr.cell? ⟨be,oe+k*6,none⟩=some (J e.TI):=hc 0 _ rfl;have c1:=hc 1 _ rfl;have c2:=hc 2 _ rfl;have c3:=hc 3 _ rfl;have c4:=hc 4 _ rfl;have c5:=hc 5 _ rfl;have⟨⟨T0,b⟩,ei⟩:=TY (UI r E k);rw[ei]at hT f8 hb1 ac fg;simp only at hT f8 hb1 ac fg;subst f8;have dI:=hB.size;have dB:=TK wr (G #[J e.TI,I e.Tw,J e.TF,I e.Uz,J e.Ua,I e.of] 159);have aj:Bw w (wr.alloc (G #[J e.TI,I e.Tw,J e.TF,I e.Uz,J e.Ua,I e.of] 159)):=hB.alloc dI _;obtain⟨jP,jR,jT,jV,jX,jZ⟩:(λz:World=>z.cell? ⟨wr.heap.size,0,none⟩=some (J e.TI)/\z.cell? ⟨wr.heap.size,1,none⟩=some (I e.Tw)/\z.cell? ⟨wr.heap.size,2,none⟩=some (J e.TF)/\z.cell? ⟨wr.heap.size,3,none⟩=some (I e.Uz)/\z.cell? ⟨wr.heap.size,4,none⟩=some (J e.Ua)/\z.cell? ⟨wr.heap.size,5,none⟩=some (I e.of)) (wr.alloc (G #[J e.TI,I e.Tw,J e.TF,I e.Uz,J e.Ua,I e.of] 159)):=Z8;have⟨vl,i8,oc,_⟩:=jwa (P:=Tryz.prog) (T:=234) (HM.out.kept ⟨aj.os,aj.tape,aj.output,aj.size,λk hk _=>aj.block k hk⟩) Tryz.underlying234 Tryz.underlying9 jmx e.Tw (by have:=eR.nam;unfold maxLen;omega);obtain⟨al,cl,rfl,Fv,_⟩:=Ym (rows:=(Xb r.Tw e.Tw).map Ud.cs) (by rw[U7];exact oc) jpt;have i8:=i8 (wr.alloc (G #[J e.TI,I e.Tw,J e.TF,I e.Uz,J e.Ua,I e.of] 159)) rfl;rw[U7]at i8;have qE:∀x∈Xb r.Tw e.Tw,U5 x=true:=λx hx=>HR.out x (List.mem_filter.mp hx).1
   have pD:=HV.out.of_below aj;have hH:=jqo (Xb r.Tw e.Tw) al cl e.TI (wr.alloc (G #[J e.TI,I e.Tw,J e.TF,I e.Uz,J e.Ua,I e.of] 159)) Fv pD.1 pD.2 (λx hx=>jrg (qE x hx)) (Nat.le_trans (List.length_filter_le _ _) fk) (λx hx=>jza (jvl (qE x hx))) eR.off.1 eR.off.2;have bU:(wr.alloc (G #[J e.TI,I e.Tw,J e.TF,I e.Uz,J e.Ua,I e.of] 159)).heap.size=wr.heap.size+1:=M;rw[bU]at hH;have eY:(k:Int)<(E.length:Int):=Q;clear hc oc Fv qE pD;go_wp2_with fail;refine hH.mono ?_;rintro q w2 ⟨v2,H,bb,rfl,aW,cY,bu⟩;have⟨pK,iZ⟩:=jz3 cY;obtain⟨a2,fJ,rfl,mZ⟩:=aW.seq;have an:=aj.trans (bu.mono Q);have jQ:=Tx (by first|exact bu|exact bU.symm ▸ bu) jP;have jS:=Tx (by first|exact bu|exact bU.symm ▸ bu) jR;have jU:=Tx (by first|exact bu|exact bU.symm ▸ bu) jT;have jW:=Tx (by first|exact bu|exact bU.symm ▸ bu) jV;have jY:=Tx (by first|exact bu|exact bU.symm ▸ bu) jX;have k8:=Tx (by first|exact bu|exact bU.symm ▸ bu) jZ;cases bb with
   |false=>
    have HX:Hid (Xf r E=([],false)):=by simp only[Hid,Xf];rw[j04 he iZ.symm hlt];rfl
    clear hH cY pK iZ aW mZ i8;go_wp2;exact Ue (v:=.tuple #[nS,Z false]) (by simp[results,Tryz.results187,go_sem]) rfl ⟨⟨_,_,[],rfl,World.ownsRow_nil _ _ _ _,HX.out,an⟩⟩
   | true =>
    have rQ:Hid (okK r E (k+1)=true):=jvx he iZ.symm iA.out;have nW:=jmi (nm:=e.Tw) HR.out eR.off.1 eR.off.2;have jA:=jea (r:=r) (nm:=e.Tw) (off:=e.TI);have mh:=λh=>jln (r:=r) (T:=T0) (b:=b) he h ei
    have fY:=λh=>jlm (r:=r) (T:=T0) (b:=b) he h ei
    rw[<- pK]at nW jA mh fY;have nD:Hid (∀t,(-7200<=(Vz e H t).TF/\(Vz e H t).TF<=7200)/\(Vz e H t).Uc.size<=6):=jmk eR nW;have BW:=eR.fmt;have iI:=eR.off.1;have sB:=eR.off.2;have gZ:∀b o,a2=some ⟨b,o,none⟩->wr.heap.size<=b/\b<w2.heap.size:=λb o h=>by
     have h1:=World.ownsRow.lt aW b (by rw[h];rfl);omega
    have Bl:=jom e H a2 fJ wr.heap.size w2 mZ gZ (by have:=bu.size;omega) (λh hh=>(nW h hh).at_) jA;simp only[TX.v]at Bl;have gU:=UG (UG hT dB) (by first|exact bu|exact bU.symm ▸ bu);have jg:∀g,(U a6 m6 c6).ownBlock=some g->g<wr.heap.size:=λg hg=>(World.ownsRow.lt hT g hg).2
    clear hH cY pK iZ aW i8 ei iA hT;go_wp2_with fail;refine Bl.mono ?_;rintro q w3 ⟨K,cap,rfl,eN,bl⟩;have ax:=TJ an bl;have dE:=UG gU bl;have nc:=mZ.below bl;have Fl:wr.heap.size<=w3.heap.size:=by have h1:=bu.size;have h2:=bl.size;omega
    have uw:wr.heap.size<w3.heap.size:=by have h1:=bu.size;have h2:=bl.size;omega
    have qN:=dI;have fM:=Tx bl jQ;have eJ:=Tx bl jS;have fN:=Tx bl jU;have fO:=Tx bl jW;have fP:=Tx bl jY;have fQ:=Tx bl k8;clear Bl bl gU mZ gZ bu dB bU jP jR jT jV jX jZ jQ jS jU jW jY k8 c0 c1 c2 c3 c4 c5;have⟨n0,mE⟩:=TY wr.heap.size;have⟨nF,Ga⟩:=TY w3.heap.size;rw[mE]at fM eJ fN fO fP fQ eN Fl uw jg qN;rw[Ga]at eN uw;have mF:nF<=w3.heap.size:=Q;rw[mE];clear mE Ga aj an;by_cases hla:k+1=E.length
    .have hq:((k:Int)==(E.length:Int)-1)=true:=Z6
     have HS:Hid (UI r E (k+1)=(Vm (UZ e H) (Xn b (UX H b 253402300799)) T0,253402300799)):=mh hla;have eD:=je1 H a2 fJ b 253402300799 w3 nc jA;clear mh fY hla;go_wp2_with fail;refine eD.mono ?_;rintro q w5 ⟨vL,L,rfl,pR,us,md,aV⟩;have HL:Hid (Vm (UZ e H) L T0=Vm (UZ e H) (Xn b (UX H b 253402300799)) T0):=jks (UZ e H) us md T0;have ma:L.length<=2001:=by have h1:=md.length_eq;have h2:=jdo H b 253402300799;simp only[List.length_cons]at h1;omega
     have⟨aL,mL,cL,CE⟩:=UY pR;subst CE;have sf:0<L.length:=by have h1:=md.length_eq;simp only[List.length_cons]at h1;omega
     have⟨gL,ze,jB,_,lu,un,uo⟩:=pR.open sf;injection jB with hLv1 hLv2 hLv3
     subst hLv1 hLv2 hLv3;have sW:=hid uo;have bG:=TJ ax aV;have m5:Mid n0 nF w3 w5:=Mid.of_below aV mF;have jz:=eN.Uj m5;have iT:=Tx aV fM;have iU:=Tx aV eJ;have iV:=Tx aV fN;have iW:=Tx aV fO;have iX:=Tx aV fP;have iY:=Tx aV fQ;have fe:=UG dE aV;have tO:nF<=w5.heap.size:=Nat.le_trans mF aV.size;have⟨n1,iO⟩:=TY w5.heap.size;have pN:gL<n1:=by rw[<- iO];exact lu
     have pM:n0<=gL:=Nat.le_trans Fl un;have Cm:nF<=n1:=by rw[<- iO];exact tO
     have kF:∀g,(U a6 m6 c6).ownBlock=some g->g<n0\/n1<=g:=λg hg=>.inl (jg g hg)
     have bT:n0<n1:=Q;have qH:n1<=w5.heap.size:=Q;have vK:w.heap.size<=n0:=qN;clear pR us md uo aV lu un iO tO;go_wp2;go_loopw [6,61] (λs6 rA wq=>∃(j:Nat) (p:Option Addr) (m c:Nat),j<=L.length/\rA=J j/\s6=U p m c/\Zf wq w.heap.size (U p m c) (Vm (UZ e H) (L.take j) T0)/\Hid (∀g,(U p m c).ownBlock=some g->g<n0\/n1<=g)/\Mid n0 n1 w5 wq/\w5.heap.size<=wq.heap.size/\Bw w wq) (λ_ rA _=>L.length-(intOf rA).toNat)
     .exact⟨0,a6,m6,c6,Q,rfl,rfl,fe,kF,Mid.refl _ _ _,TP _,bG⟩
     ·
      have⟨wq,qQ⟩:=UL wr;subst qQ;obtain⟨j,p,m,c,hj,rfl,rfl,bI,jh,du,iQ,dt⟩:=hrel;by_cases eP:j<L.length
      .have⟨t,ht⟩:=Vb eP
       have ct:wq.cell? ⟨gL,j,none⟩=some (J t):=du.cell pM pN (sW.out j t ht);have lj:Hid (Vm (UZ e H) (L.take (j+1)) T0=Vu (Vm (UZ e H) (L.take j) T0) (UZ e H t)):=by simp only[Hid];rw[List.take_add_one,ht];exact jgk _ _ _ _
       have oj:(Vm (UZ e H) (L.take j) T0).length<=100000:=by
        have h1:=jec (UZ e H) (L.take j) T0;have h2:(L.take j).length<=L.length:=by rw[List.length_take];omega
        omega
       have⟨TT,eD⟩:=TY (Vm (UZ e H) (L.take j) T0);rw[eD]at bI lj oj;have qW:=du.cell (TP _) bT iT;have qX:=du.cell (TP _) bT iU;have qY:=du.cell (TP _) bT iV;have qZ:=du.cell (TP _) bT iW;have r8:=du.cell (TP _) bT iX;have r9:=du.cell (TP _) bT iY;have bY:Bw w wq.drew:=dt.trans ((UF wq).mono dt.size);have hC:=jz.tell wq.drew t (λg h1 h2=>du g h1 Q);have xZ:=jz.go;have⟨⟨rC,rD⟩,Mf⟩:=nD.out t;have lA:=λw1 hM=>ji2 e (Vz e H t) t w1 hM (by have:=BW;omega) Q iI sB rC rD
       have nJ:Hid (UZ e H t=XF e (Vz e H t) t):=rfl;have qp:=λw1 h1 h2=>jfu TT (XF e (Vz e H t) t) (U p m c) w.heap.size w1 h1 h2 oj
       generalize Vz e H t=F at *;obtain⟨fa,fs,fl⟩:=F;generalize XF e ⟨fa,fs,fl⟩ t=X at *;obtain⟨xa,xo,xs,xb⟩:=X;simp only[Ur.v,Ub.v,TX.v]at hC lA qp;have Bu:Zf wq.drew w.heap.size (U p m c) TT:=bI;have qG:ZH wq.drew:=ZH.of_below ut bY;have mC:(j:Int)<(L.length:Int):=Q;have fi:∀g,(U p m c).ownBlock=some g->¬g=n0:=λg hg=>by have:=jh.out g hg;omega
       have mQ:∀g,(U p m c).ownBlock=some g->w.heap.size<=g:=λg hg=>(World.ownsRow.lt bI g hg).1
       clear ht eD;go_wp2_with fail;go_region_held3 (λw'=>w'.cell? ⟨n0,0,none⟩=some (J e.TI)/\w'.cell? ⟨n0,1,none⟩=some (I e.Tw)/\w'.cell? ⟨n0,2,none⟩=some (J e.TF)/\w'.cell? ⟨n0,3,none⟩=some (I e.Uz)/\w'.cell? ⟨n0,4,none⟩=some (J e.Ua)/\w'.cell? ⟨n0,5,none⟩=some (I e.of)) (go_keep) (first|(refine hC.mono ?_;rintro q6 w6 ⟨rfl,hb6⟩;have re:=Tx hb6 qW;have ri:=Tx hb6 qX;have rk:=Tx hb6 qY;have rm:=Tx hb6 qZ;have rr:=Tx hb6 r8;have ru:=Tx hb6 r9;have fV:Zf w6 w.heap.size (U p m c) TT:=UG Bu hb6;have Ch:=ZH.of_below qG hb6;have cp:Bw w w6:=TJ bY hb6)|(go_at_call 231;refine(lA _ Ch).mono ?_;rintro q7 w7 ⟨rfl,ay⟩;have rf:=Tx ay re;have rj:=Tx ay ri;have rl:=Tx ay rk;have rp:=Tx ay rm;have rt:=Tx ay rr;have ry:=Tx ay ru;have cj:Zf w7 w.heap.size (U p m c) TT:=UG fV ay;have dz:Bw w w7:=TJ cp ay)|(go_at_call 230;refine(qp _ cj dz.size).mono ?_;rintro q8 w8 ⟨v8,rfl,dF,cT,jf⟩;obtain⟨p8,m8,c8,rfl⟩:=UY dF;have Df:=cT.cell (λhg=>fi _ hg rfl) rf;have Dj:=cT.cell (λhg=>fi _ hg rfl) rj;have Dl:=cT.cell (λhg=>fi _ hg rfl) rl;have Dn:=cT.cell (λhg=>fi _ hg rfl) rp;have Dp:=cT.cell (λhg=>fi _ hg rfl) rt;have Dr:=cT.cell (λhg=>fi _ hg rfl) ry))
       all_goals
        have tQ:w5.heap.size<=w7.heap.size:=by have h1:=hb6.size;have h2:=ay.size;have h3:wq.drew.heap.size=wq.heap.size:=rfl;omega
        have M7:Mid n0 n1 w5 w7:=(du.trans (Mid.of_below (n0:=n0) (n1:=n1) (UF wq) Q)).trans ((Mid.of_below (n0:=n0) (n1:=n1) hb6 (by have h3:wq.drew.heap.size=wq.heap.size:=rfl;omega)).trans (Mid.of_below (n0:=n0) (n1:=n1) ay (by have h1:=hb6.size;have h3:wq.drew.heap.size=wq.heap.size:=rfl;omega)));have M8:Mid n0 n1 w5 w8:=M7.trans λg h1 h2=>cT.block g Q λhg=>by have:=jh.out g hg;omega
        have B8:Bw w w8:=dz.trans (cT.below (λg hg=>mQ g hg) dz.size);have yP:Hid (Zf w8 w.heap.size (U p8 m8 c8) (Vm (UZ e H) (L.take (j+1)) T0)):=by rw[lj.out,nJ.out];exact dF
        have yH:Hid (∀g,(U p8 m8 c8).ownBlock=some g->g<n0\/n1<=g):=λg hg=>by
         rcases jf with h|⟨g2,h2,h3⟩
         .exact jh.out g (h.symm.trans hg)
         .rw[h2]at hg;injection hg with hg;omega
        have S8:w5.heap.size<=w8.heap.size:=Nat.le_trans tQ cT.size;clear dF cT jf M7 hb6 ay fV cj hC lA qp;go_wp2;go_roundw
        .exact⟨j+1,p8,m8,c8,Q,Z7,rfl,yP.out,yH,M8,S8,B8⟩
        .simp[intOf];omega
      .have jd:j=L.length:=Q
       have lP:Hid (Zf wq w.heap.size (U p m c) (UI r E (k+1)).1):=by rw[HS.out];simp only;rw[<- HL.out];rw[jd,List.take_length]at bI;exact bI
       have mC:¬(j:Int)<(L.length:Int):=Q;have lN:Hid ((UI r E (k+1)).2=253402300799):=by simp only[Hid];rw[HS.out]
       clear jd;go_wp2;go_roundw
       .exact⟨k+1,p,m,c,Q,rfl,by rw[lN.out],Z7,lP.out,rQ,dt⟩
       .simp[intOf];omega
    .have hq:((k:Int)==(E.length:Int)-1)=false:=Z6
     have fY:=fY hla;have Bb:=jqr e H n0 nF K cap b w3 eN mF eR.unt.1 eR.unt.2 eR.off.1 eR.off.2 (λt=>(nD.out t).1);simp only[TX.v]at Bb;have ou:b<=VT e H b/\VT e H b<=253402300799:=by unfold VT;omega
     clear mh hla;generalize VT e H b=en at *;go_wp2_with fail;refine Bb.mono ?_;rintro q w4 ⟨rfl,dH⟩;have aR:=TJ ax dH;have dX:=UG dE dH;have Md:=nc.below dH;have JF:n0<=w4.heap.size:=by have h1:=dH.size;omega
     have vn:nF<=w4.heap.size:=by have h1:=dH.size;omega
     have m9:=eN.Uj (Mid.of_below dH mF);have zh:=Tx dH fM;have zl:=Tx dH eJ;have zr:=Tx dH fN;have zy:=Tx dH fO;have zC:=Tx dH fP;have zG:=Tx dH fQ;clear Bb dH nc dE eN fM eJ fN fO fP fQ ax;by_cases hbe:b<en
     .rw[if_pos hbe]at fY
      have HS:=hid fY;have eD:=je1 H a2 fJ b en w4 Md jA;clear fY;go_wp2_with fail;refine eD.mono ?_;rintro q w5 ⟨vL,L,rfl,pR,us,md,aV⟩;have HL:Hid (Vm (UZ e H) L T0=Vm (UZ e H) (Xn b (UX H b en)) T0):=jks (UZ e H) us md T0;have ma:L.length<=2001:=by have h1:=md.length_eq;have h2:=jdo H b en;simp only[List.length_cons]at h1;omega
      have⟨aL,mL,cL,CE⟩:=UY pR;subst CE;have sf:0<L.length:=by have h1:=md.length_eq;simp only[List.length_cons]at h1;omega
      have⟨gL,ze,jB,_,lu,un,uo⟩:=pR.open sf;injection jB with hLv1 hLv2 hLv3
      subst hLv1 hLv2 hLv3;have sW:=hid uo;have bG:=TJ aR aV;have m5:Mid n0 nF w4 w5:=Mid.of_below aV vn;have jz:=m9.Uj m5;have iT:=Tx aV zh;have iU:=Tx aV zl;have iV:=Tx aV zr;have iW:=Tx aV zy;have iX:=Tx aV zC;have iY:=Tx aV zG;have fe:=UG dX aV;have tO:nF<=w5.heap.size:=Nat.le_trans vn aV.size;have⟨n1,iO⟩:=TY w5.heap.size;have pN:gL<n1:=by rw[<- iO];exact lu
      have pM:n0<=gL:=Nat.le_trans JF un;have Cm:nF<=n1:=by rw[<- iO];exact tO
      have kF:∀g,(U a6 m6 c6).ownBlock=some g->g<n0\/n1<=g:=λg hg=>.inl (jg g hg)
      have bT:n0<n1:=Q;have qH:n1<=w5.heap.size:=Q;have vK:w.heap.size<=n0:=qN;clear pR us md uo aV lu un iO tO;go_wp2;go_loopw [6,61] (λs6 rA wq=>∃(j:Nat) (p:Option Addr) (m c:Nat),j<=L.length/\rA=J j/\s6=U p m c/\Zf wq w.heap.size (U p m c) (Vm (UZ e H) (L.take j) T0)/\Hid (∀g,(U p m c).ownBlock=some g->g<n0\/n1<=g)/\Mid n0 n1 w5 wq/\w5.heap.size<=wq.heap.size/\Bw w wq) (λ_ rA _=>L.length-(intOf rA).toNat)
      .exact⟨0,a6,m6,c6,Q,rfl,rfl,fe,kF,Mid.refl _ _ _,TP _,bG⟩
      ·
       have⟨wq,qQ⟩:=UL wr;subst qQ;obtain⟨j,p,m,c,hj,rfl,rfl,bI,jh,du,iQ,dt⟩:=hrel;by_cases eP:j<L.length
       .have⟨t,ht⟩:=Vb eP
        have ct:wq.cell? ⟨gL,j,none⟩=some (J t):=du.cell pM pN (sW.out j t ht);have lj:Hid (Vm (UZ e H) (L.take (j+1)) T0=Vu (Vm (UZ e H) (L.take j) T0) (UZ e H t)):=by simp only[Hid];rw[List.take_add_one,ht];exact jgk _ _ _ _
        have oj:(Vm (UZ e H) (L.take j) T0).length<=100000:=by
         have h1:=jec (UZ e H) (L.take j) T0;have h2:(L.take j).length<=L.length:=by rw[List.length_take];omega
         omega
        have⟨TT,eD⟩:=TY (Vm (UZ e H) (L.take j) T0);rw[eD]at bI lj oj;have qW:=du.cell (TP _) bT iT;have qX:=du.cell (TP _) bT iU;have qY:=du.cell (TP _) bT iV;have qZ:=du.cell (TP _) bT iW;have r8:=du.cell (TP _) bT iX;have r9:=du.cell (TP _) bT iY;have bY:Bw w wq.drew:=dt.trans ((UF wq).mono dt.size);have hC:=jz.tell wq.drew t (λg h1 h2=>du g h1 Q);have xZ:=jz.go;have⟨⟨rC,rD⟩,Mf⟩:=nD.out t;have lA:=λw1 hM=>ji2 e (Vz e H t) t w1 hM (by have:=BW;omega) Q iI sB rC rD
        have nJ:Hid (UZ e H t=XF e (Vz e H t) t):=rfl;have qp:=λw1 h1 h2=>jfu TT (XF e (Vz e H t) t) (U p m c) w.heap.size w1 h1 h2 oj
        generalize Vz e H t=F at *;obtain⟨fa,fs,fl⟩:=F;generalize XF e ⟨fa,fs,fl⟩ t=X at *;obtain⟨xa,xo,xs,xb⟩:=X;simp only[Ur.v,Ub.v,TX.v]at hC lA qp;have Bu:Zf wq.drew w.heap.size (U p m c) TT:=bI;have qG:ZH wq.drew:=ZH.of_below ut bY;have mC:(j:Int)<(L.length:Int):=Q;have fi:∀g,(U p m c).ownBlock=some g->¬g=n0:=λg hg=>by have:=jh.out g hg;omega
        have mQ:∀g,(U p m c).ownBlock=some g->w.heap.size<=g:=λg hg=>(World.ownsRow.lt bI g hg).1
        clear ht eD;go_wp2_with fail;go_region_held3 (λw'=>w'.cell? ⟨n0,0,none⟩=some (J e.TI)/\w'.cell? ⟨n0,1,none⟩=some (I e.Tw)/\w'.cell? ⟨n0,2,none⟩=some (J e.TF)/\w'.cell? ⟨n0,3,none⟩=some (I e.Uz)/\w'.cell? ⟨n0,4,none⟩=some (J e.Ua)/\w'.cell? ⟨n0,5,none⟩=some (I e.of)) (go_keep) (first|(refine hC.mono ?_;rintro q6 w6 ⟨rfl,hb6⟩;have re:=Tx hb6 qW;have ri:=Tx hb6 qX;have rk:=Tx hb6 qY;have rm:=Tx hb6 qZ;have rr:=Tx hb6 r8;have ru:=Tx hb6 r9;have fV:Zf w6 w.heap.size (U p m c) TT:=UG Bu hb6;have Ch:=ZH.of_below qG hb6;have cp:Bw w w6:=TJ bY hb6)|(go_at_call 231;refine(lA _ Ch).mono ?_;rintro q7 w7 ⟨rfl,ay⟩;have rf:=Tx ay re;have rj:=Tx ay ri;have rl:=Tx ay rk;have rp:=Tx ay rm;have rt:=Tx ay rr;have ry:=Tx ay ru;have cj:Zf w7 w.heap.size (U p m c) TT:=UG fV ay;have dz:Bw w w7:=TJ cp ay)|(go_at_call 230;refine(qp _ cj dz.size).mono ?_;rintro q8 w8 ⟨v8,rfl,dF,cT,jf⟩;obtain⟨p8,m8,c8,rfl⟩:=UY dF;have Df:=cT.cell (λhg=>fi _ hg rfl) rf;have Dj:=cT.cell (λhg=>fi _ hg rfl) rj;have Dl:=cT.cell (λhg=>fi _ hg rfl) rl;have Dn:=cT.cell (λhg=>fi _ hg rfl) rp;have Dp:=cT.cell (λhg=>fi _ hg rfl) rt;have Dr:=cT.cell (λhg=>fi _ hg rfl) ry))
        all_goals
         have tQ:w5.heap.size<=w7.heap.size:=by have h1:=hb6.size;have h2:=ay.size;have h3:wq.drew.heap.size=wq.heap.size:=rfl;omega
         have M7:Mid n0 n1 w5 w7:=(du.trans (Mid.of_below (n0:=n0) (n1:=n1) (UF wq) Q)).trans ((Mid.of_below (n0:=n0) (n1:=n1) hb6 (by have h3:wq.drew.heap.size=wq.heap.size:=rfl;omega)).trans (Mid.of_below (n0:=n0) (n1:=n1) ay (by have h1:=hb6.size;have h3:wq.drew.heap.size=wq.heap.size:=rfl;omega)));have M8:Mid n0 n1 w5 w8:=M7.trans λg h1 h2=>cT.block g Q λhg=>by have:=jh.out g hg;omega
         have B8:Bw w w8:=dz.trans (cT.below (λg hg=>mQ g hg) dz.size);have yP:Hid (Zf w8 w.heap.size (U p8 m8 c8) (Vm (UZ e H) (L.take (j+1)) T0)):=by rw[lj.out,nJ.out];exact dF
         have yH:Hid (∀g,(U p8 m8 c8).ownBlock=some g->g<n0\/n1<=g):=λg hg=>by
          rcases jf with h|⟨g2,h2,h3⟩
          .exact jh.out g (h.symm.trans hg)
          .rw[h2]at hg;injection hg with hg;omega
         have S8:w5.heap.size<=w8.heap.size:=Nat.le_trans tQ cT.size;clear dF cT jf M7 hb6 ay fV cj hC lA qp;go_wp2;go_roundw
         .exact⟨j+1,p8,m8,c8,Q,Z7,rfl,yP.out,yH,M8,S8,B8⟩
         .simp[intOf];omega
       .have jd:j=L.length:=Q
        have lP:Hid (Zf wq w.heap.size (U p m c) (UI r E (k+1)).1):=by rw[HS.out];simp only;rw[<- HL.out];rw[jd,List.take_length]at bI;exact bI
        have mC:¬(j:Int)<(L.length:Int):=Q;have lN:Hid ((UI r E (k+1)).2=en):=by simp only[Hid];rw[HS.out]
        clear jd;go_wp2;go_roundw
        .exact⟨k+1,p,m,c,Q,rfl,by rw[lN.out],Z7,lP.out,rQ,dt⟩
        .simp[intOf];omega
     .rw[if_neg hbe]at fY
      have lP:Hid (Zf w4 w.heap.size (U a6 m6 c6) (UI r E (k+1)).1):=by rw[fY];exact dX
      have lN:Hid ((UI r E (k+1)).2=en):=by simp only[Hid];rw[fY]
      clear fY;go_wp2;go_roundw
      .exact⟨k+1,a6,m6,c6,Q,rfl,by rw[lN.out],Z7,lP.out,rQ,aR⟩
      .simp[intOf];omega
  .have kD:k=E.length:=Q
   have HX:Hid (Xf r E=((UI r E k).1,decide ((UI r E k).1.length<=600))):=by simp only[Hid,Xf];rw[kD]at iA ⊢;rw[iA.out];rfl
   have eY:¬(k:Int)<(E.length:Int):=Q;have⟨⟨T0,b⟩,ei⟩:=TY (UI r E k);rw[ei]at hT f8 HX fg;simp only at hT f8 HX fg;subst f8;have hm:m6=T0.length:=by
    have⟨a,cap,h,_⟩:=hT.seq;injection h
   subst hm;clear kD ei;by_cases h6:T0.length<=600
   .have AM:(T0.length:Int)<=600:=Q
    rw[Uy h6]at HX;go_wp2;exact Ue (v:=.tuple #[U a6 T0.length c6,Z true]) (by simp[results,Tryz.results187,go_sem]) rfl ⟨⟨_,_,T0,rfl,hT,HX.out,hB⟩⟩
   .have AM:¬(T0.length:Int)<=600:=Q
    rw[dfe h6]at HX;go_wp2;exact Ue (v:=.tuple #[U a6 T0.length c6,Z false]) (by simp[results,Tryz.results187,go_sem]) rfl ⟨⟨_,_,T0,rfl,hT,HX.out,hB⟩⟩
def UJ(r:Un)(nm:ByteArray):Int × List Ub:=
 if nm.size<=8000 then(if Um r=true then(if (UU r nm).TR=[]then(5,[])else(if (Xf r (UU r nm).TR).2=true then(0,(Xf r (UU r nm).TR).1)else(7,[])))else(1,[]))else(2,[])
theorem j0y(h:¬nm.size<=8000):UJ r nm=(2,[]):=if_neg h
theorem j0z(h:nm.size<=8000)(h2:Um r=false):UJ r nm=(1,[]):=by unfold UJ;rw[if_pos h,if_neg (by rw[h2];simp)]
theorem ju5(h:nm.size<=8000)(h2:Um r=true)(h3:(UU r nm).TR=[]):UJ r nm=(5,[]):=by unfold UJ;rw[if_pos h,if_pos h2,if_pos h3]
theorem ju4(h:nm.size<=8000)(h2:Um r=true)(h3:(UU r nm).TR≠[])(h4:Xf r (UU r nm).TR=(T,false)):UJ r nm=(7,[]):=by unfold UJ;rw[if_pos h,if_pos h2,if_neg h3,h4];rfl
theorem ju6(h:nm.size<=8000)(h2:Um r=true)(h3:(UU r nm).TR≠[])(h4:Xf r (UU r nm).TR=(T,true)):UJ r nm=(0,T):=by unfold UJ;rw[if_pos h,if_pos h2,if_neg h3,h4];rfl
theorem vfo(h:X9 e=true):vau e:=by
 unfold X9 at h;simp only[UM,decide_eq_true_eq]at h;have⟨h1,h2,h3,h4,h5,h6,_⟩:=h;have hf:=VH h4;unfold erB at h3;refine⟨⟨h1,h2⟩,⟨h5,h6⟩,hf.2.1,λh0=>?_,?_⟩
 .have hE:e.Tw.toList.isEmpty=true:=by
   rw[YE,List.isEmpty_iff, <- List.length_eq_zero_iff,Wi];exact h0
  rw[if_pos hE]at h3;exact WM h3
 .split at h3
  .rename_i hE
   rw[YE,List.isEmpty_iff, <- List.length_eq_zero_iff,Wi]at hE;omega
  .simp only[UM]at h3
   exact(jf8 h3.1).2.1
theorem je7(h:Um r=true)(az:(UU r nm).TR≠[]):VE (UU r nm)=true/\∃i,WG r.TC (Wk r.TG nm)=some i/\r.TC[i]? =some (UU r nm):=by
 have hz:∀z∈r.TC,VE z=true:=by
  have h':=h;unfold Um at h';simp only[UM,List.all_eq_true]at h';exact h'.2.2.1
 unfold UU at az ⊢;rw[if_pos h]at az ⊢;split at az
 .rename_i i hi
  split at az
  .rename_i z aF
   simp only[hi];exact⟨hz z (UH aF),i,rfl,aF⟩
  .exact absurd rfl az
 .exact absurd rfl az
theorem jhv(h:VE z=true):(1<=z.TR.length/\z.TR.length<=8)/\∀e∈z.TR,vau e:=by
 unfold VE at h;simp only[UM,List.all_eq_true]at h;exact⟨VH h.2.1,λe he=>vfo (h.2.2.1 e he)⟩
theorem XC{b:Nat}{x0 x1:Value}(h0:w.cell? ⟨b,0,none⟩=some x0)(h1:w.cell? ⟨b,1,none⟩=some x1):
  ((w.setCell ⟨b,0,none⟩ v0).setCell ⟨b,1,none⟩ v1).cell? ⟨b,0,none⟩=some v0/\((w.setCell ⟨b,0,none⟩ v0).setCell ⟨b,1,none⟩ v1).cell? ⟨b,1,none⟩=some v1:=by
 refine⟨?_,?_⟩
 .rw[Uh _ _ _ _ M,U8 _ _ _ h0]
 .refine U8 _ _ _ (u:=x1) ?_
  rw[Uh _ _ _ _ M];exact h1
structure Jt(r:Un)(nm:ByteArray)(w:World)(q:Ending)(W':World):Prop where
 ex:∃v,q=V (.agg #[v,J (UJ r nm).1])/\Zf W' w.heap.size v (UJ r nm).2/\Bw w W'
theorem jcs{w1:World}{c:Int}{b:Nat}(h:UJ r nm=(c,[]))(hB:Bw w w1)(hb:w.heap.size<=b):Jt r nm w (V (.agg #[nS,J c])) ((w1.setCell ⟨b,0,none⟩ nS).setCell ⟨b,1,none⟩ (J c)):=by
 refine⟨nS,by rw[h],by rw[h];exact World.ownsRow_nil _ _ _ _,(hB.setCell hb _).setCell hb _⟩
theorem jrh(h:U5 x=true):U6 x.name=true:=by
 unfold U5 at h;simp only[UM]at h;exact h.1
theorem jor(r:Un)(v:Value)(nm:ByteArray)(w:World)(cg:Zx w)(hv:Zd w v r)(ok:r.ok)(sm:r.small)(di:∀x∈r.Tw,x.on.size<=1048576)(hm:nm.size<=maxLen):
  C 137 #[v,I nm] w λq W'=>Jt r nm w q W':=by
 unfold maxLen at hm;obtain⟨a,b,c,ca,cb,cc,rfl,hA,lV,nP⟩:=hv.form;have hv:Zd w (.agg #[U a r.Tw.length ca,U b r.TC.length cb,U c r.TG.length cc]) r:=⟨⟨a,b,c,ca,cb,cc,rfl,hA,lV,nP⟩⟩;clear lV nP;have ag:=(TK w (G #[U a r.Tw.length ca,U b r.TC.length cb,U c r.TG.length cc] 27)).alloc M (G #[nS,J 0] 110);obtain⟨fp,fq,ft,dJ,dK,fc,fd⟩:(λz:World=>z.cell? ⟨w.heap.size,0,none⟩=some (U a r.Tw.length ca)/\z.cell? ⟨w.heap.size,1,none⟩=some (U b r.TC.length cb)/\z.cell? ⟨w.heap.size,2,none⟩=some (U c r.TG.length cc)/\z.cell? ⟨w.heap.size+1,0,none⟩=some nS/\z.cell? ⟨w.heap.size+1,1,none⟩=some (J 0)/\z.frozen? ⟨w.heap.size+1,0,none⟩=false/\z.frozen? ⟨w.heap.size+1,1,none⟩=false) ((w.alloc (G #[U a r.Tw.length ca,U b r.TC.length cb,U c r.TG.length cc] 27)).alloc (G #[nS,J 0] 110)):=Z8;by_cases h1:nm.size<=8000
 case neg=>
  have g1:(8000:Int)<(nm.size:Int):=Q;have HT:Hid (UJ r nm=(2,[])):=j0y h1;have HP:Hid (Jt r nm w (V (.agg #[nS,J 2])) ((w.alloc (G #[U a r.Tw.length ca,U b r.TC.length cb,U c r.TG.length cc] 27)).alloc (G #[nS,J 2] 110))):=⟨nS,by rw[HT.out],by rw[HT.out];exact World.ownsRow_nil _ _ _ _,(TK w _).alloc M _⟩;clear h1 HT;delta C;go_in;go_wp2;exact Ue (v:=.agg #[nS,J 2]) (by simp[results,Tryz.results137,go_sem]) rfl HP.out
 have g1:¬(8000:Int)<(nm.size:Int):=Q;have hR:=λw hE (h:Zd w (.agg #[U a r.Tw.length ca,U b r.TC.length cb,U c r.TG.length cc]) r)=>jbr r _ w hE h ok sm di
 cases h2:Um r
 case false=>
  have HT:Hid (UJ r nm=(1,[])):=j0z h1 h2;rw[h2]at hR;clear h2 h1;delta C;go_in;go_wp2_with fail;refine(hR _ (cg.of_below ag) (hv.below ag)).mono ?_;rintro q w1 ⟨rfl,hb1⟩;have aj:=TJ ag hb1;have eU:=Tx hb1 fp;have eV:=Tx hb1 fq;have eW:=Tx hb1 ft;have dx:=Tx hb1 dJ;have dL:=Tx hb1 dK;have gO:=U2 hb1 dJ fc;have gP:=U2 hb1 dK fd;clear hb1 fp fq ft dJ dK fc fd;have⟨t0,t1⟩:=XC (v0:=nS) (v1:=J 1) dx dL;have HP:Hid (Jt r nm w (V (.agg #[nS,J 1])) ((w1.setCell ⟨w.heap.size+1,0,none⟩ nS).setCell ⟨w.heap.size+1,1,none⟩ (J 1))):=jcs HT.out aj Q;go_wp2;exact Ue (v:=.agg #[nS,J 1]) (by simp[results,Tryz.results137,go_sem,t0,t1]) rfl HP.out
 have NH:=hid h2;have hl:=jid h2;have vd:=hl.1;have HL:Hid (∀x∈r.Tw,U5 x=true):=hl.2;have hZ:=λw hE (h:Zd w (.agg #[U a r.Tw.length ca,U b r.TC.length cb,U c r.TG.length cc]) r)=>jfe r _ nm w hE h ok sm di
 have hN:=λw (h:Za w a 9 (r.Tw.map Ud.cs))=>jhd r.Tw a ca w h vd (λx hx=>by have:=(jf8 (jrh (HL.out x hx))).2.1;unfold maxLen;omega)
 have nT:=λh=>ju5 (nm:=nm) h1 h2 h
 have py:=λT h h'=>ju4 (nm:=nm) (T:=T) h1 h2 h h'
 have pu:=λT h h'=>ju6 (nm:=nm) (T:=T) h1 h2 h h'
 have qd:=λh=>je7 (nm:=nm) h2 h
 rw[h2]at hR;have⟨⟨zn,E⟩,mS⟩:=TY (UU r nm);rw[mS]at hZ nT py pu qd;simp only at hZ nT py pu qd;clear h2 hl mS;delta C;go_in;go_wp2_with fail;refine(hR _ (cg.of_below ag) (hv.below ag)).mono ?_;rintro q w1 ⟨rfl,hb1⟩;have aj:=TJ ag hb1;have eU:=Tx hb1 fp;have eV:=Tx hb1 fq;have eW:=Tx hb1 ft;have dx:=Tx hb1 dJ;have dL:=Tx hb1 dK;have gO:=U2 hb1 dJ fc;have gP:=U2 hb1 dK fd;clear hb1 hR fp fq ft dJ dK fc fd;go_wp2_with fail;refine(hZ _ (cg.of_below aj) (hv.below aj)).mono ?_;rintro q w2 ⟨vz,rfl,uB,ac⟩;have an:=TJ aj ac;have wT:=Tx ac eU;have wU:=Tx ac eV;have wV:=Tx ac eW;have ip:=Tx ac dx;have kW:=Tx ac dL;have oW:=U2 ac dx gO;have tH:=U2 ac dL gP;clear ac hZ eU eV eW dx dL gO gP;rcases uB with⟨jy,rfl⟩|⟨g,cap,rfl,hgB,FU,hSE,_⟩
 .have HT:Hid (UJ r nm=(5,[])):=nT jy
  have qA:∀w,(Instr.field 121 (.agg #[I zn,nS]) 1).run Tryz.prog w=.ok nS w:=λ_=>Z4
  clear nT py pu qd hN;have⟨t0,t1⟩:=XC (v0:=nS) (v1:=J 5) ip kW;have HP:Hid (Jt r nm w (V (.agg #[nS,J 5])) ((w2.setCell ⟨w.heap.size+1,0,none⟩ nS).setCell ⟨w.heap.size+1,1,none⟩ (J 5))):=jcs HT.out an Q;go_wp2;exact Ue (v:=.agg #[nS,J 5]) (by simp[results,Tryz.results137,go_sem,t0,t1]) rfl HP.out
 .have qA:∀w,(Instr.field 121 (.agg #[I zn,U (some ⟨g,0,none⟩) E.length cap]) 1).run Tryz.prog w=.ok (U (some ⟨g,0,none⟩) E.length cap) w:=λ_=>Z4
  by_cases eu:E=[]
  .subst eu
   simp only[List.length_nil]at qA;have HT:Hid (UJ r nm=(5,[])):=nT rfl;clear nT py pu qd hN;have⟨t0,t1⟩:=XC (v0:=nS) (v1:=J 5) ip kW;have HP:Hid (Jt r nm w (V (.agg #[nS,J 5])) ((w2.setCell ⟨w.heap.size+1,0,none⟩ nS).setCell ⟨w.heap.size+1,1,none⟩ (J 5))):=jcs HT.out an Q;go_wp2;exact Ue (v:=.agg #[nS,J 5]) (by simp[results,Tryz.results137,go_sem,t0,t1]) rfl HP.out
  .have⟨lZ,ud⟩:=jhv (qd eu).1
   simp only at lZ ud;have az:¬E.length=0:=Q;have Kp:¬(E.length:Int)=0:=Q;go_wp2_with fail;refine(hN _ (hA.below an)).mono ?_;rintro q w3 ⟨rfl,gT,ar⟩;have ax:=TJ an ar;have rH:=Tx ar wT;have rI:=Tx ar wU;have rJ:=Tx ar wV;have kU:=Tx ar ip;have mW:=Tx ar kW;have oX:=U2 ar ip oW;have oY:=U2 ar kW tH;have qm:=jof r E (some ⟨g,0,none⟩) cap w2.heap.size (w2.heap.size+1) w3 (hSE.below ar) gT (cg.of_below ax) HL.out vd ud lZ.2;clear ar hN wT wU wV ip kW oW tH;go_wp2_with fail;refine qm.mono ?_;rintro q w4 ⟨v4,bb,T,rfl,dX,jE,aD⟩;have aR:=TJ ax aD;have MM:=Tx aD rH;have MO:=Tx aD rI;have MP:=Tx aD rJ;have vY:=Tx aD kU;have we:=Tx aD mW;have II:=U2 aD kU oX;have IK:=U2 aD mW oY;obtain⟨a7,m7,d7,rfl⟩:=UY dX;cases bb with
   |false=>
    have HT:Hid (UJ r nm=(7,[])):=py T eu jE;clear aD qm jE nT py pu qd dX rH rI rJ kU mW oX oY;have⟨t0,t1⟩:=XC (v0:=nS) (v1:=J 7) vY we;have HP:Hid (Jt r nm w (V (.agg #[nS,J 7])) ((w4.setCell ⟨w.heap.size+1,0,none⟩ nS).setCell ⟨w.heap.size+1,1,none⟩ (J 7))):=jcs HT.out aR Q;go_wp2;exact Ue (v:=.agg #[nS,J 7]) (by simp[results,Tryz.results137,go_sem,t0,t1]) rfl HP.out
   |true=>
    have HT:Hid (UJ r nm=(0,T)):=pu T eu jE;have dh:∀g,(U a7 m7 d7).ownBlock=some g->w3.heap.size<=g:=λg hg=>(World.ownsRow.lt dX g hg).1
    have gm:w.heap.size+1<w3.heap.size:=TV kU
    have HP:Hid (Jt r nm w (V (.agg #[U a7 m7 d7,J 0])) ((w4.setCell ⟨w.heap.size+1,0,none⟩ (U a7 m7 d7)).setCell ⟨w.heap.size+1,1,none⟩ (J 0))):=⟨U a7 m7 d7,by rw[HT.out],by
     rw[HT.out];have h1:=U4 dX ax.size
     exact World.ownsRow.kept (World.ownsRow.kept h1 (jck w4 _ 0 _) (by cases hv:(U a7 m7 d7).ownBlock with
      |none=>exact .inl rfl
      |some g=>exact .inr λe=>by have:=dh g hv;injection e with e;omega)) (jck _ _ 1 _) (by cases hv:(Value.slice a7 m7 d7).ownBlock with
      |none=>exact .inl rfl
      |some g=>exact .inr λe=>by have:=dh g hv;injection e with e;omega),(aR.setCell (vQs _) _).setCell (vQs _) _⟩
    have⟨t0,t1⟩:=XC (v0:=U a7 m7 d7) (v1:=J 0) vY we;clear aD qm jE nT py pu qd dX rH rI rJ kU mW oX oY;go_wp2;exact Ue (v:=.agg #[U a7 m7 d7,J 0]) (by simp[results,Tryz.results137,go_sem,t0,t1]) rfl HP.out
def vbA(E:List TX):Prop:=∀k e,E[k]? =some e->(e.Ua=253402300799↔k+1=E.length)
theorem jyf:∀{E:List TX},Y0 E=true->∀{i j:Nat} {x y:TX},i<j->E[i]? =some x->E[j]? =some y->x.Ua<y.Ua:=by
 intro E
 induction E with
 |nil=>intro _ i j x y _ hx;simp at hx
 |cons a E ih=>
  intro h i j x y eF hx hy;cases E with
  |nil=>
   cases j with
   |zero=>omega
   |succ j=>simp at hy
  |cons b E=>
   rw[Y0,UM]at h;have h1:=VH h.1;cases j with
   |zero=>omega
   |succ j=>
    rw[List.getElem?_cons_succ]at hy;cases i with
    | zero=>
     simp at hx;subst hx;cases j with
     |zero=>simp at hy;subst hy;exact h1
     |succ j=>
      have:=ih h.2 (i:=0) (j:=j+1) (x:=b) (y:=y) Q rfl hy;omega
    |succ i=>exact ih h.2 (i:=i) (j:=j) Q (by simpa using hx) hy
theorem jx3(h:VE z=true):vbA z.TR:=by
 unfold VE at h;simp only[UM]at h;have⟨_,hl,_,hu,hla⟩:=h;have hl:=VH hl;intro k e he;have eY:=(Ux he).1;obtain⟨f,hf⟩:∃f,z.TR[z.TR.length-1]? =some f:=⟨_,Ug Q⟩;unfold va3 at hla;rw[hf]at hla;simp only[UM,beq_iff_eq]at hla;constructor
 .intro h1
  rcases Nat.lt_or_ge (k+1) z.TR.length with h2|h2
  .have:=jyf hu (i:=k) (j:=z.TR.length-1) Q he hf
   omega
  .omega
 .intro h1
  have:k=z.TR.length-1:=Q;subst this;rw[hf]at he;injection he with he
  subst he;exact hla.1
theorem jxk(hU:vbA E){k:Nat}{e:TX}(he:E[k]? =some e)(h:k+1=E.length)(H:List Ur)(b:Int):vaA e H b=253402300799:=if_pos ((hU k e he).mpr h)
theorem jxj(hU:vbA E){k:Nat}{e:TX}(he:E[k]? =some e)(h:¬k+1=E.length)(H:List Ur)(b:Int):vaA e H b=VT e H b:=if_neg λh1=>h ((hU k e he).mp h1)
theorem jk2{off:Int}(hr:∀x∈r.Tw,U5 x=true)(h0:nm.size=0):Vg r nm off=([],true):=by
 have hw:∀k,Vw nm r.Tw k=[]:=by
  intro k
  induction k with
  |zero=>rfl
  |succ k ih=>
   rw[Vw,ih];split
   .rename_i x hx
    split
    .rename_i hn
     have h1:=(jf8 (jrh (hr x (UH hx)))).1;have h2:x.name=nm:=jhz (beq_iff_eq.mp hn);rw[h2]at h1;omega
    .rfl
   .rfl
 unfold Vg;rw[hw,if_pos M];rfl
structure Jl(s:Nat)(v0 v1 v2 z0 z1:Value)(W:World):Prop where
 x0:W.cell? ⟨s,0,none⟩=some v0
 x1:W.cell? ⟨s,1,none⟩=some v1
 x2:W.cell? ⟨s,2,none⟩=some v2
 y0:W.cell? ⟨s+1,0,none⟩=some z0
 y1:W.cell? ⟨s+1,1,none⟩=some z1
 r0:W.cell? ⟨s+1+1,0,none⟩=some nS
 f0:W.frozen? ⟨s+1+1,0,none⟩=false
 t:∃u,W.cell? ⟨s+1+1+1,0,none⟩=some u
 f1:W.frozen? ⟨s+1+1+1,0,none⟩=false
theorem Jl.fr{S:Nat->Prop}(h:Jl s v0 v1 v2 z0 z1 W)(hf:Fr S W W')(hs:∀g,S g->s+1+1+1+1<=g):Jl s v0 v1 v2 z0 z1 W':=by
 have n:∀k,k<s+1+1+1+1->¬S k:=λk hk h=>by have:=hs k h;omega
 have⟨u,hu⟩:=h.t;exact⟨hf.cell (n _ Q) h.x0,hf.cell (n _ Q) h.x1,hf.cell (n _ Q) h.x2,hf.cell (n _ Q) h.y0,hf.cell (n _ Q) h.y1,hf.cell (n _ Q) h.r0,(hf.frozen (TV h.r0) (n (s+1+1) Q)).trans h.f0,⟨u,hf.cell (n _ Q) hu⟩,(hf.frozen (TV hu) (n (s+1+1+1) Q)).trans h.f1⟩
theorem Jl.below(h:Jl s v0 v1 v2 z0 z1 W)(hb:Bw W W'):Jl s v0 v1 v2 z0 z1 W':=h.fr (S:=λ_=>False) (Fr.of_below hb) λ_ h=>h.elim
theorem Jl.set(h:Jl s v0 v1 v2 z0 z1 W)(u:Value):Jl s v0 v1 v2 z0 z1 (W.setCell ⟨s+1+1+1,0,none⟩ u):=by
 have⟨v,hv⟩:=h.t;refine⟨?_,?_,?_,?_,?_,?_,by rw[World.frozen?_setCell];exact h.f0,⟨u,U8 _ _ _ hv⟩,by rw[World.frozen?_setCell];exact h.f1⟩
 .rw[Uh _ _ _ _ M];exact h.x0
 .rw[Uh _ _ _ _ M];exact h.x1
 .rw[Uh _ _ _ _ M];exact h.x2
 .rw[Uh _ _ _ _ M];exact h.y0
 .rw[Uh _ _ _ _ M];exact h.y1
 .rw[Uh _ _ _ _ M];exact h.r0
structure vbz(r:Un)(E:List TX)(w:World)(q:Ending)(W':World):Prop where
 ex:∃v b T,q=V (.tuple #[.agg #[v],Z b])/\Zf W' w.heap.size v T/\b=(Xf r E).2/\(b=true->T=(Xf r E).1)/\Bw w W'
