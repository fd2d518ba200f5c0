import Derived.Test.YtpejeokacilebaaGreatDoorZonePd
import Derived.Test.YtpejeokacilebaaGreatDoorTsPd
set_option maxRecDepth 20000
set_option maxHeartbeats 0
set_option linter.unusedSimpArgs false
open Go.RowKit Go.Sort
namespace Go.Proofs.YtpejeokacilebaaGreatDoor
structure EraR(e:EraD):Prop where
 off: -86400<=e.offset/\e.offset<=86400
 unt: -62135596800<=e.until_/\e.until_<=253402300799
 fmt:e.format.size<=12
 sav:e.rules.size=0-> -7200<=e.save/\e.save<=7200
 nam:e.rules.size<=20
theorem jmk{e:EraD}{H:List HapD}(he:EraR e)(hH:∀h∈H,HapB h)(t:Int):(-7200<=(jas e H t).save/\(jas e H t).save<=7200)/\(jas e H t).letter.size<=6:=by
 by_cases h0:e.rules.size=0
 ·rw[jjm h0]
  exact⟨he.sav h0,by simp[ByteArray.size]⟩
 ·rw[jen h0]
  cases hc:hcnt H t with
  | zero=>
   refine⟨by simp[jdd],?_⟩
   show(jb4 H).size<=6
   clear hc
   induction H with
   |nil=>simp[jb4,ByteArray.size]
   |cons a H ih=>
    rw[jb4]
    split
    ·exact(hH a (by simp)).letter
    ·exact ih fun h hh=>hH h (lmc _ hh)
  |succ m=>
   obtain⟨x,hx⟩:∃x,H[m]? =some x:=⟨_,lgg (by have:=jwz H t;omega)⟩
   have hB:=hH x (lmg hx)
   simp only[jdd]
   rw[hx]
   exact⟨hB.save,hB.letter⟩
def j26(r:RelD)(last:Bool)(e:EraD)(st:List TurnD × Int):List TurnD × Int:=
 if last=true then(ja8 (turnE e (ja2 r e.rules e.offset).1) (atsF st.2 (inX (ja2 r e.rules e.offset).1 st.2 253402300799)) st.1,253402300799)
 else(if st.2<endE e (ja2 r e.rules e.offset).1 st.2 then ja8 (turnE e (ja2 r e.rules e.offset).1) (atsF st.2 (inX (ja2 r e.rules e.offset).1 st.2 (endE e (ja2 r e.rules e.offset).1 st.2))) st.1 else st.1,endE e (ja2 r e.rules e.offset).1 st.2)
def stK(r:RelD)(E:List EraD):Nat->List TurnD × Int
 |0=>([], -62135596800)
 |k+1=>match E[k]? with
  |some e=>j26 r (decide (k+1=E.length)) e (stK r E k)
  |none=>stK r E k
def okK(r:RelD)(E:List EraD):Nat->Bool
 |0=>true
 |k+1=>okK r E k&&(match E[k]? with|some e=>(ja2 r e.rules e.offset).2|none=>true)
def tabE(r:RelD)(E:List EraD):List TurnD × Bool:=if okK r E E.length=true then((stK r E E.length).1,decide ((stK r E E.length).1.length<=600))else([],false)
theorem j04{r:RelD}{E:List EraD}{k:Nat}{e:EraD}(he:E[k]? =some e)(h:(ja2 r e.rules e.offset).2=false):∀{n:Nat},k<n->okK r E n=false:=by
 intro n
 induction n with
 |zero=>intro hn;omega
 |succ n ih=>
  intro hn
  rw[okK]
  by_cases e1:k=n
  ·subst e1;rw[he];simp[h]
  ·rw[ih (by omega)];rfl
theorem jvx{r:RelD}{E:List EraD}{k:Nat}{e:EraD}(he:E[k]? =some e)(h:(ja2 r e.rules e.offset).2=true)(hk:okK r E k=true):okK r E (k+1)=true:=by rw[okK,hk,he];simp[h]
theorem jln{r:RelD}{E:List EraD}{k:Nat}{e:EraD}{T:List TurnD}{b:Int}(he:E[k]? =some e)(hk:k+1=E.length)(hs:stK r E k=(T,b)):stK r E (k+1)=(ja8 (turnE e (ja2 r e.rules e.offset).1) (atsF b (inX (ja2 r e.rules e.offset).1 b 253402300799)) T,253402300799):=by
 rw[stK,he]
 simp only
 rw[dte hk,hs]
 rfl
theorem jlm{r:RelD}{E:List EraD}{k:Nat}{e:EraD}{T:List TurnD}{b:Int}(he:E[k]? =some e)(hk:¬k+1=E.length)(hs:stK r E k=(T,b)):stK r E (k+1)=(if b<endE e (ja2 r e.rules e.offset).1 b then ja8 (turnE e (ja2 r e.rules e.offset).1) (atsF b (inX (ja2 r e.rules e.offset).1 b (endE e (ja2 r e.rules e.offset).1 b))) T else T,endE e (ja2 r e.rules e.offset).1 b):=by
 rw[stK,he]
 simp only
 rw[dfe hk,hs]
 rfl
theorem j1s{r:RelD}{E:List EraD}:∀k,(-62135596800<=(stK r E k).2/\(stK r E k).2<=253402300799)/\(stK r E k).1.length<=2001*k:=by
 intro k
 induction k with
 |zero=>simp[stK]
 |succ k ih=>
  rw[stK]
  split
  ·rename_i e he
   obtain⟨⟨i1,i2⟩,i3⟩:=ih
   have hl:=jea (r:=r) (nm:=e.rules) (off:=e.offset)
   generalize (ja2 r e.rules e.offset).1=H at *
   have hx:∀n,(atsF (stK r E k).2 (inX H (stK r E k).2 n)).length<=2001:=fun n=>by
    have h1:=jjs (stK r E k).2 (inX H (stK r E k).2 n)
    have h2:=jdo H (stK r E k).2 n
    omega
   unfold j26
   split
   ·refine⟨by simp,?_⟩
    have h1:=jec (turnE e (ja2 r e.rules e.offset).1) (atsF (stK r E k).2 (inX (ja2 r e.rules e.offset).1 (stK r E k).2 253402300799)) (stK r E k).1
    have h2:=jjs (stK r E k).2 (inX (ja2 r e.rules e.offset).1 (stK r E k).2 253402300799)
    have h3:=jdo (ja2 r e.rules e.offset).1 (stK r E k).2 253402300799
    have h4:=jea (r:=r) (nm:=e.rules) (off:=e.offset)
    show(ja8 _ _ _).length<=_
    omega
   ·refine⟨?_,?_⟩
    ·show _<=endE e _ _/\endE e _ _<=_
     unfold endE
     omega
    ·show(if _ then _ else _:List TurnD).length<=_
     split
     ·have h1:=jec (turnE e (ja2 r e.rules e.offset).1) (atsF (stK r E k).2 (inX (ja2 r e.rules e.offset).1 (stK r E k).2 (endE e (ja2 r e.rules e.offset).1 (stK r E k).2))) (stK r E k).1
      have h2:=jjs (stK r E k).2 (inX (ja2 r e.rules e.offset).1 (stK r E k).2 (endE e (ja2 r e.rules e.offset).1 (stK r E k).2))
      have h3:=jdo (ja2 r e.rules e.offset).1 (stK r E k).2 (endE e (ja2 r e.rules e.offset).1 (stK r E k).2)
      have h4:=jea (r:=r) (nm:=e.rules) (off:=e.offset)
      omega
     ·omega
  ·omega
structure TurnsP(r:RelD)(E:List EraD)(w:World)(q:Ending)(W':World):Prop where
 ex:∃v b T,q=.returned (.tuple #[v,.bool b])/\Zf W' w.heap.size v T/\tabE r E=(T,b)/\Bw w W'
theorem jpt{P:List RuleD}:∀r∈P.map RuleD.cs,r.length=9:=fun r hr=>by
 obtain⟨x,_,rfl⟩:=List.mem_map.mp hr
 rfl
theorem jvl{x:RuleD}(h:jaw x=true):onB x.on=true:=by
 unfold jaw at h
 simp only[bat]at h
 exact h.2.2.2.2.1
theorem jof(r:RelD)(E:List EraD)(ae:Option Addr)(It mb base:Nat)(w:World)(hE:Za w ae 6 (E.map EraD.cs))(hM:Jp w base mb r.rules)(cg:Zx w)(hr:∀x∈r.rules,jaw x=true)(fk:r.rules.length<=40)(hP:∀e∈E,EraR e)(hl:E.length<=8):
  Cl 207 #[.slice ae E.length It,.map (some mb)] w fun q W'=>TurnsP r E w q W':=by
 have HR:=hid hr
 have HP:=hid hP
 have ut:MxA w:=cg.2
 have HM:=hid hM
 have HV:=hid cg
 clear hr hP hM cg
 unfold Cl;go_in
 go_wp2
 go_loopw [6,7,19] (fun s6 s7 Dh wr=>∃(k:Nat) (a6:Option Addr) (m6 c6:Nat),k<=E.length/\s6=.slice a6 m6 c6/\s7=iv (stK r E k).2/\Dh=iv k/\Zf wr w.heap.size (.slice a6 m6 c6) (stK r E k).1/\Hid (okK r E k=true)/\Bw w wr) (fun _ _ Dh _=>E.length-(intOf Dh).toNat)
 case atStart=>exact⟨0,none,0,0,by omega,rfl,rfl,rfl,World.ownsRow_nil _ _ _ _,rfl,brf _ _⟩
 case round=>
  obtain⟨k,a6,m6,c6,hk,rfl,f8,rfl,hT,iA,hB⟩:=hrel
  obtain⟨⟨hb1,ac⟩,fg⟩:=j1s (r:=r) (E:=E) k
  by_cases hlt:k<E.length
  ·obtain ⟨e,he⟩:=qgg hlt
   have eR:=HP.out e (lmg he)
   obtain⟨be,oe,rfl,hc⟩:=(hE.below hB).at (i:=k) (r:=e.cs) (by rw[lgm,he];rfl)
   have c0:wr.cell? ⟨be,oe+k*6,none⟩=some (iv e.offset):=hc 0 _ rfl
   have c1:=hc 1 _ rfl
   have c2:=hc 2 _ rfl
   have c3:=hc 3 _ rfl
   have c4:=hc 4 _ rfl
   have c5:=hc 5 _ rfl
   obtain⟨⟨T0,b⟩,ei⟩:=qeb (stK r E k)
   rw[ei]at hT f8 hb1 ac fg
   simp only at hT f8 hb1 ac fg
   subst f8
   have dI:=hB.size
   have dB:=qal wr (.cells #[iv e.offset,.string e.rules,iv e.save,.string e.format,iv e.until_,.string e.of] 133)
   have aj:Bw w (wr.alloc (.cells #[iv e.offset,.string e.rules,iv e.save,.string e.format,iv e.until_,.string e.of] 133)):=hB.alloc dI _
   obtain⟨jP,jR,jT,jV,jX,jZ⟩:(fun z:World=>z.cell? ⟨wr.heap.size,0,none⟩=some (iv e.offset)/\z.cell? ⟨wr.heap.size,1,none⟩=some (.string e.rules)/\z.cell? ⟨wr.heap.size,2,none⟩=some (iv e.save)/\z.cell? ⟨wr.heap.size,3,none⟩=some (.string e.format)/\z.cell? ⟨wr.heap.size,4,none⟩=some (iv e.until_)/\z.cell? ⟨wr.heap.size,5,none⟩=some (.string e.of)) (wr.alloc (.cells #[iv e.offset,.string e.rules,iv e.save,.string e.format,iv e.until_,.string e.of] 133)):=by simp[go_sem]
   obtain⟨vl,i8,oc,_⟩:=jwa (P:=Tryz.prog) (T:=264) (HM.out.kept ⟨aj.os,aj.tape,aj.output,aj.size,fun k hk _=>aj.block k hk⟩) Tryz.underlying264 Tryz.underlying9 jmx e.rules (by have:=eR.nam;unfold maxLen;omega)
   obtain⟨al,cl,rfl,Fv,_⟩:=jbe (rows:=(jbt r.rules e.rules).map RuleD.cs) (by rw[llm];exact oc) jpt
   have i8:=i8 (wr.alloc (.cells #[iv e.offset,.string e.rules,iv e.save,.string e.format,iv e.until_,.string e.of] 133)) rfl
   rw[llm]at i8
   have qE:∀x∈jbt r.rules e.rules,jaw x=true:=fun x hx=>HR.out x (List.mem_filter.mp hx).1
   have pD:=HV.out.of_below aj
   have hH:=jqo (jbt r.rules e.rules) al cl e.offset (wr.alloc (.cells #[iv e.offset,.string e.rules,iv e.save,.string e.format,iv e.until_,.string e.of] 133)) Fv pD.1 pD.2 (fun x hx=>jrg (qE x hx)) (Nat.le_trans (List.length_filter_le _ _) fk) (fun x hx=>jza (jvl (qE x hx))) eR.off.1 eR.off.2
   have bU:(wr.alloc (.cells #[iv e.offset,.string e.rules,iv e.save,.string e.format,iv e.until_,.string e.of] 133)).heap.size=wr.heap.size+1:=by simp
   rw[bU]at hH
   have eY:(k:Int)<(E.length:Int):=by omega
   clear hc oc Fv qE pD
   go_wp2_with fail
   refine hH.mono ?_
   rintro q w2 ⟨v2,H,bb,rfl,aW,cY,bu⟩
   obtain⟨pK,iZ⟩:=jz3 cY
   obtain⟨a2,fJ,rfl,mZ⟩:=aW.seq
   have an:=aj.trans (bu.mono (by omega))
   have jQ:=jaa (by first|exact bu|exact bU.symm ▸ bu) jP
   have jS:=jaa (by first|exact bu|exact bU.symm ▸ bu) jR
   have jU:=jaa (by first|exact bu|exact bU.symm ▸ bu) jT
   have jW:=jaa (by first|exact bu|exact bU.symm ▸ bu) jV
   have jY:=jaa (by first|exact bu|exact bU.symm ▸ bu) jX
   have k8:=jaa (by first|exact bu|exact bU.symm ▸ bu) jZ
   cases bb with
   |false=>
    have HX:Hid (tabE r E=([],false)):=by simp only[Hid,tabE];rw[j04 he iZ.symm hlt];rfl
    clear hH cY pK iZ aW mZ i8
    go_wp2
    exact bpr (v:=.tuple #[nS,.bool false]) (by simp[results,Tryz.results207,go_sem]) rfl ⟨⟨_,_,[],rfl,World.ownsRow_nil _ _ _ _,HX.out,an⟩⟩
   | true =>
    have rQ:Hid (okK r E (k+1)=true):=jvx he iZ.symm iA.out
    have nW:=jmi (nm:=e.rules) HR.out eR.off.1 eR.off.2
    have jA:=jea (r:=r) (nm:=e.rules) (off:=e.offset)
    have mh:=fun h=>jln (r:=r) (T:=T0) (b:=b) he h ei
    have fY:=fun h=>jlm (r:=r) (T:=T0) (b:=b) he h ei
    rw[<- pK]at nW jA mh fY
    have nD:Hid (∀t,(-7200<=(jas e H t).save/\(jas e H t).save<=7200)/\(jas e H t).letter.size<=6):=jmk eR nW
    have BW:=eR.fmt
    have iI:=eR.off.1
    have sB:=eR.off.2
    have gZ:∀b o,a2=some ⟨b,o,none⟩->wr.heap.size<=b/\b<w2.heap.size:=fun b o h=>by
     have h1:=World.ownsRow.lt aW b (by rw[h];rfl)
     omega
    have Bl:=jom e H a2 fJ wr.heap.size w2 mZ gZ (by have:=bu.size;omega) (fun h hh=>(nW h hh).at_) jA
    simp only[EraD.v]at Bl
    have gU:=jac (jac hT dB) (by first|exact bu|exact bU.symm ▸ bu)
    have jg:∀g,(Value.slice a6 m6 c6).ownBlock=some g->g<wr.heap.size:=fun g hg=>(World.ownsRow.lt hT g hg).2
    clear hH cY pK iZ aW i8 ei iA hT
    go_wp2_with fail
    refine Bl.mono ?_
    rintro q w3 ⟨K,cap,rfl,eN,bl⟩
    have ax:=qtr an bl
    have dE:=jac gU bl
    have nc:=mZ.below bl
    have Fl:wr.heap.size<=w3.heap.size:=by have h1:=bu.size;have h2:=bl.size;omega
    have uw:wr.heap.size<w3.heap.size:=by have h1:=bu.size;have h2:=bl.size;omega
    have qN:=dI
    have fM:=jaa bl jQ
    have eJ:=jaa bl jS
    have fN:=jaa bl jU
    have fO:=jaa bl jW
    have fP:=jaa bl jY
    have fQ:=jaa bl k8
    clear Bl bl gU mZ gZ bu dB bU jP jR jT jV jX jZ jQ jS jU jW jY k8 c0 c1 c2 c3 c4 c5
    obtain⟨n0,mE⟩:=qeb wr.heap.size
    obtain⟨nF,Ga⟩:=qeb w3.heap.size
    rw[mE]at fM eJ fN fO fP fQ eN Fl uw jg qN
    rw[Ga]at eN uw
    have mF:nF<=w3.heap.size:=by omega
    rw[mE]
    clear mE Ga aj an
    by_cases hla:k+1=E.length
    ·have hq:((k:Int)==(E.length:Int)-1)=true:=by simp;omega
     have HS:Hid (stK r E (k+1)=(ja8 (turnE e H) (atsF b (inX H b 253402300799)) T0,253402300799)):=mh hla
     have eD:=je1 H a2 fJ b 253402300799 w3 nc jA
     clear mh fY hla
     go_wp2_with fail
     refine eD.mono ?_
     rintro q w5 ⟨vL,L,rfl,pR,us,md,aV⟩
     have HL:Hid (ja8 (turnE e H) L T0=ja8 (turnE e H) (atsF b (inX H b 253402300799)) T0):=jks (turnE e H) us md T0
     have ma:L.length<=2001:=by have h1:=md.length_eq;have h2:=jdo H b 253402300799;simp only[List.length_cons]at h1;omega
     obtain⟨aL,mL,cL,CE⟩:=jad pR
     subst CE
     have sf:0<L.length:=by have h1:=md.length_eq;simp only[List.length_cons]at h1;omega
     obtain⟨gL,ze,jB,_,lu,un,uo⟩:=pR.open sf
     injection jB with hLv1 hLv2 hLv3
     subst hLv1 hLv2 hLv3
     have sW:=hid uo
     have bG:=qtr ax aV
     have m5:Mid n0 nF w3 w5:=Mid.of_below aV mF
     have jz:=eN.mid m5
     have iT:=jaa aV fM
     have iU:=jaa aV eJ
     have iV:=jaa aV fN
     have iW:=jaa aV fO
     have iX:=jaa aV fP
     have iY:=jaa aV fQ
     have fe:=jac dE aV
     have tO:nF<=w5.heap.size:=Nat.le_trans mF aV.size
     obtain⟨n1,iO⟩:=qeb w5.heap.size
     have pN:gL<n1:=by rw[<- iO];exact lu
     have pM:n0<=gL:=Nat.le_trans Fl un
     have Cm:nF<=n1:=by rw[<- iO];exact tO
     have kF:∀g,(Value.slice a6 m6 c6).ownBlock=some g->g<n0\/n1<=g:=fun g hg=>.inl (jg g hg)
     have bT:n0<n1:=by omega
     have qH:n1<=w5.heap.size:=by omega
     have vK:w.heap.size<=n0:=qN
     clear pR us md uo aV lu un iO tO
     go_wp2
     go_loopw [6,61] (fun s6 rA wq=>∃(j:Nat) (p:Option Addr) (m c:Nat),j<=L.length/\rA=iv j/\s6=.slice p m c/\Zf wq w.heap.size (.slice p m c) (ja8 (turnE e H) (L.take j) T0)/\Hid (∀g,(Value.slice p m c).ownBlock=some g->g<n0\/n1<=g)/\Mid n0 n1 w5 wq/\w5.heap.size<=wq.heap.size/\Bw w wq) (fun _ rA _=>L.length-(intOf rA).toNat)
     case atStart=>exact⟨0,a6,m6,c6,by omega,rfl,rfl,fe,kF,Mid.refl _ _ _,nlr _,bG⟩
     case round=>
      obtain⟨wq,qQ⟩:=qea wr
      subst qQ
      obtain⟨j,p,m,c,hj,rfl,rfl,bI,jh,du,iQ,dt⟩:=hrel
      by_cases eP:j<L.length
      ·obtain⟨t,ht⟩:=qgg eP
       have ct:wq.cell? ⟨gL,j,none⟩=some (iv t):=du.cell pM pN (sW.out j t ht)
       have lj:Hid (ja8 (turnE e H) (L.take (j+1)) T0=addT (ja8 (turnE e H) (L.take j) T0) (turnE e H t)):=by simp only[Hid];rw[List.take_add_one,ht];exact jgk _ _ _ _
       have oj:(ja8 (turnE e H) (L.take j) T0).length<=100000:=by
        have h1:=jec (turnE e H) (L.take j) T0
        have h2:(L.take j).length<=L.length:=by rw[List.length_take];omega
        omega
       obtain⟨TT,eD⟩:=qeb (ja8 (turnE e H) (L.take j) T0)
       rw[eD]at bI lj oj
       have qW:=du.cell (nlr _) bT iT
       have qX:=du.cell (nlr _) bT iU
       have qY:=du.cell (nlr _) bT iV
       have qZ:=du.cell (nlr _) bT iW
       have r8:=du.cell (nlr _) bT iX
       have r9:=du.cell (nlr _) bT iY
       have bY:Bw w wq.drew:=dt.trans ((jab wq).mono dt.size)
       have hC:=jz.tell wq.drew t (fun g h1 h2=>du g h1 (by omega))
       have xZ:=jz.go
       obtain⟨⟨rC,rD⟩,Mf⟩:=nD.out t
       have lA:=fun w1 hM=>ji2 e (jas e H t) t w1 hM (by have:=BW;omega) (by omega) iI sB rC rD
       have nJ:Hid (turnE e H t=jdl e (jas e H t) t):=rfl
       have qp:=fun w1 h1 h2=>jfu TT (jdl e (jas e H t) t) (.slice p m c) w.heap.size w1 h1 h2 oj
       generalize jas e H t=F at *
       obtain⟨fa,fs,fl⟩:=F
       generalize jdl e ⟨fa,fs,fl⟩ t=X at *
       obtain⟨xa,xo,xs,xb⟩:=X
       simp only[HapD.v,TurnD.v,EraD.v]at hC lA qp
       have Bu:Zf wq.drew w.heap.size (.slice p m c) TT:=bI
       have qG:MxA wq.drew:=MxA.of_below ut bY
       have mC:(j:Int)<(L.length:Int):=by omega
       have fi:∀g,(Value.slice p m c).ownBlock=some g->¬g=n0:=fun g hg=>by have:=jh.out g hg;omega
       have mQ:∀g,(Value.slice p m c).ownBlock=some g->w.heap.size<=g:=fun g hg=>(World.ownsRow.lt bI g hg).1
       clear ht eD
       go_wp2_with fail
       go_region_held3 (fun w'=>w'.cell? ⟨n0,0,none⟩=some (iv e.offset)/\w'.cell? ⟨n0,1,none⟩=some (.string e.rules)/\w'.cell? ⟨n0,2,none⟩=some (iv e.save)/\w'.cell? ⟨n0,3,none⟩=some (.string e.format)/\w'.cell? ⟨n0,4,none⟩=some (iv e.until_)/\w'.cell? ⟨n0,5,none⟩=some (.string e.of)) (go_keep) (first|(refine hC.mono ?_;rintro q6 w6 ⟨rfl,hb6⟩;have re:=jaa hb6 qW;have ri:=jaa hb6 qX;have rk:=jaa hb6 qY;have rm:=jaa hb6 qZ;have rr:=jaa hb6 r8;have ru:=jaa hb6 r9;have fV:Zf w6 w.heap.size (.slice p m c) TT:=jac Bu hb6;have Ch:=MxA.of_below qG hb6;have cp:Bw w w6:=qtr bY hb6)|(go_at_call 235;refine(lA _ Ch).mono ?_;rintro q7 w7 ⟨rfl,ay⟩;have rf:=jaa ay re;have rj:=jaa ay ri;have rl:=jaa ay rk;have rp:=jaa ay rm;have rt:=jaa ay rr;have ry:=jaa ay ru;have cj:Zf w7 w.heap.size (.slice p m c) TT:=jac fV ay;have dz:Bw w w7:=qtr cp ay)|(go_at_call 234;refine(qp _ cj dz.size).mono ?_;rintro q8 w8 ⟨v8,rfl,dF,cT,jf⟩;obtain⟨p8,m8,c8,rfl⟩:=jad dF;have Df:=cT.cell (fun hg=>fi _ hg rfl) rf;have Dj:=cT.cell (fun hg=>fi _ hg rfl) rj;have Dl:=cT.cell (fun hg=>fi _ hg rfl) rl;have Dn:=cT.cell (fun hg=>fi _ hg rfl) rp;have Dp:=cT.cell (fun hg=>fi _ hg rfl) rt;have Dr:=cT.cell (fun hg=>fi _ hg rfl) ry))
       all_goals
        have tQ:w5.heap.size<=w7.heap.size:=by have h1:=hb6.size;have h2:=ay.size;have h3:wq.drew.heap.size=wq.heap.size:=rfl;omega
        have M7:Mid n0 n1 w5 w7:=(du.trans (Mid.of_below (n0:=n0) (n1:=n1) (jab wq) (by omega))).trans ((Mid.of_below (n0:=n0) (n1:=n1) hb6 (by have h3:wq.drew.heap.size=wq.heap.size:=rfl;omega)).trans (Mid.of_below (n0:=n0) (n1:=n1) ay (by have h1:=hb6.size;have h3:wq.drew.heap.size=wq.heap.size:=rfl;omega)))
        have M8:Mid n0 n1 w5 w8:=M7.trans fun g h1 h2=>cT.block g (by omega) fun hg=>by have:=jh.out g hg;omega
        have B8:Bw w w8:=dz.trans (cT.below (fun g hg=>mQ g hg) dz.size)
        have yP:Hid (Zf w8 w.heap.size (.slice p8 m8 c8) (ja8 (turnE e H) (L.take (j+1)) T0)):=by rw[lj.out,nJ.out];exact dF
        have yH:Hid (∀g,(Value.slice p8 m8 c8).ownBlock=some g->g<n0\/n1<=g):=fun g hg=>by
         rcases jf with h|⟨g2,h2,h3⟩
         ·exact jh.out g (h.symm.trans hg)
         ·rw[h2]at hg;injection hg with hg;omega
        have S8:w5.heap.size<=w8.heap.size:=Nat.le_trans tQ cT.size
        clear dF cT jf M7 hb6 ay fV cj hC lA qp
        go_wp2
        go_roundw
        case rel=>exact⟨j+1,p8,m8,c8,by omega,by go_num,rfl,yP.out,yH,M8,S8,B8⟩
        case measure=>simp[intOf];omega
      ·have jd:j=L.length:=by omega
       have lP:Hid (Zf wq w.heap.size (.slice p m c) (stK r E (k+1)).1):=by rw[HS.out];simp only;rw[<- HL.out];rw[jd,List.take_length]at bI;exact bI
       have mC:¬(j:Int)<(L.length:Int):=by omega
       have lN:Hid ((stK r E (k+1)).2=253402300799):=by simp only[Hid];rw[HS.out]
       clear jd
       go_wp2
       go_roundw
       case rel=>exact⟨k+1,p,m,c,by omega,rfl,by rw[lN.out],by go_num,lP.out,rQ,dt⟩
       case measure=>simp[intOf];omega
    ·have hq:((k:Int)==(E.length:Int)-1)=false:=by simp;omega
     have fY:=fY hla
     have Bb:=jqr e H n0 nF K cap b w3 eN mF eR.unt.1 eR.unt.2 eR.off.1 eR.off.2 (fun t=>(nD.out t).1)
     simp only[EraD.v]at Bb
     have ou:b<=endE e H b/\endE e H b<=253402300799:=by unfold endE;omega
     clear mh hla
     generalize endE e H b=en at *
     go_wp2_with fail
     refine Bb.mono ?_
     rintro q w4 ⟨rfl,dH⟩
     have aR:=qtr ax dH
     have dX:=jac dE dH
     have Md:=nc.below dH
     have JF:n0<=w4.heap.size:=by have h1:=dH.size;omega
     have vn:nF<=w4.heap.size:=by have h1:=dH.size;omega
     have m9:=eN.mid (Mid.of_below dH mF)
     have zh:=jaa dH fM
     have zl:=jaa dH eJ
     have zr:=jaa dH fN
     have zy:=jaa dH fO
     have zC:=jaa dH fP
     have zG:=jaa dH fQ
     clear Bb dH nc dE eN fM eJ fN fO fP fQ ax
     by_cases hbe:b<en
     ·rw[if_pos hbe]at fY
      have HS:=hid fY
      have eD:=je1 H a2 fJ b en w4 Md jA
      clear fY
      go_wp2_with fail
      refine eD.mono ?_
      rintro q w5 ⟨vL,L,rfl,pR,us,md,aV⟩
      have HL:Hid (ja8 (turnE e H) L T0=ja8 (turnE e H) (atsF b (inX H b en)) T0):=jks (turnE e H) us md T0
      have ma:L.length<=2001:=by have h1:=md.length_eq;have h2:=jdo H b en;simp only[List.length_cons]at h1;omega
      obtain⟨aL,mL,cL,CE⟩:=jad pR
      subst CE
      have sf:0<L.length:=by have h1:=md.length_eq;simp only[List.length_cons]at h1;omega
      obtain⟨gL,ze,jB,_,lu,un,uo⟩:=pR.open sf
      injection jB with hLv1 hLv2 hLv3
      subst hLv1 hLv2 hLv3
      have sW:=hid uo
      have bG:=qtr aR aV
      have m5:Mid n0 nF w4 w5:=Mid.of_below aV vn
      have jz:=m9.mid m5
      have iT:=jaa aV zh
      have iU:=jaa aV zl
      have iV:=jaa aV zr
      have iW:=jaa aV zy
      have iX:=jaa aV zC
      have iY:=jaa aV zG
      have fe:=jac dX aV
      have tO:nF<=w5.heap.size:=Nat.le_trans vn aV.size
      obtain⟨n1,iO⟩:=qeb w5.heap.size
      have pN:gL<n1:=by rw[<- iO];exact lu
      have pM:n0<=gL:=Nat.le_trans JF un
      have Cm:nF<=n1:=by rw[<- iO];exact tO
      have kF:∀g,(Value.slice a6 m6 c6).ownBlock=some g->g<n0\/n1<=g:=fun g hg=>.inl (jg g hg)
      have bT:n0<n1:=by omega
      have qH:n1<=w5.heap.size:=by omega
      have vK:w.heap.size<=n0:=qN
      clear pR us md uo aV lu un iO tO
      go_wp2
      go_loopw [6,61] (fun s6 rA wq=>∃(j:Nat) (p:Option Addr) (m c:Nat),j<=L.length/\rA=iv j/\s6=.slice p m c/\Zf wq w.heap.size (.slice p m c) (ja8 (turnE e H) (L.take j) T0)/\Hid (∀g,(Value.slice p m c).ownBlock=some g->g<n0\/n1<=g)/\Mid n0 n1 w5 wq/\w5.heap.size<=wq.heap.size/\Bw w wq) (fun _ rA _=>L.length-(intOf rA).toNat)
      case atStart=>exact⟨0,a6,m6,c6,by omega,rfl,rfl,fe,kF,Mid.refl _ _ _,nlr _,bG⟩
      case round=>
       obtain⟨wq,qQ⟩:=qea wr
       subst qQ
       obtain⟨j,p,m,c,hj,rfl,rfl,bI,jh,du,iQ,dt⟩:=hrel
       by_cases eP:j<L.length
       ·obtain⟨t,ht⟩:=qgg eP
        have ct:wq.cell? ⟨gL,j,none⟩=some (iv t):=du.cell pM pN (sW.out j t ht)
        have lj:Hid (ja8 (turnE e H) (L.take (j+1)) T0=addT (ja8 (turnE e H) (L.take j) T0) (turnE e H t)):=by simp only[Hid];rw[List.take_add_one,ht];exact jgk _ _ _ _
        have oj:(ja8 (turnE e H) (L.take j) T0).length<=100000:=by
         have h1:=jec (turnE e H) (L.take j) T0
         have h2:(L.take j).length<=L.length:=by rw[List.length_take];omega
         omega
        obtain⟨TT,eD⟩:=qeb (ja8 (turnE e H) (L.take j) T0)
        rw[eD]at bI lj oj
        have qW:=du.cell (nlr _) bT iT
        have qX:=du.cell (nlr _) bT iU
        have qY:=du.cell (nlr _) bT iV
        have qZ:=du.cell (nlr _) bT iW
        have r8:=du.cell (nlr _) bT iX
        have r9:=du.cell (nlr _) bT iY
        have bY:Bw w wq.drew:=dt.trans ((jab wq).mono dt.size)
        have hC:=jz.tell wq.drew t (fun g h1 h2=>du g h1 (by omega))
        have xZ:=jz.go
        obtain⟨⟨rC,rD⟩,Mf⟩:=nD.out t
        have lA:=fun w1 hM=>ji2 e (jas e H t) t w1 hM (by have:=BW;omega) (by omega) iI sB rC rD
        have nJ:Hid (turnE e H t=jdl e (jas e H t) t):=rfl
        have qp:=fun w1 h1 h2=>jfu TT (jdl e (jas e H t) t) (.slice p m c) w.heap.size w1 h1 h2 oj
        generalize jas e H t=F at *
        obtain⟨fa,fs,fl⟩:=F
        generalize jdl e ⟨fa,fs,fl⟩ t=X at *
        obtain⟨xa,xo,xs,xb⟩:=X
        simp only[HapD.v,TurnD.v,EraD.v]at hC lA qp
        have Bu:Zf wq.drew w.heap.size (.slice p m c) TT:=bI
        have qG:MxA wq.drew:=MxA.of_below ut bY
        have mC:(j:Int)<(L.length:Int):=by omega
        have fi:∀g,(Value.slice p m c).ownBlock=some g->¬g=n0:=fun g hg=>by have:=jh.out g hg;omega
        have mQ:∀g,(Value.slice p m c).ownBlock=some g->w.heap.size<=g:=fun g hg=>(World.ownsRow.lt bI g hg).1
        clear ht eD
        go_wp2_with fail
        go_region_held3 (fun w'=>w'.cell? ⟨n0,0,none⟩=some (iv e.offset)/\w'.cell? ⟨n0,1,none⟩=some (.string e.rules)/\w'.cell? ⟨n0,2,none⟩=some (iv e.save)/\w'.cell? ⟨n0,3,none⟩=some (.string e.format)/\w'.cell? ⟨n0,4,none⟩=some (iv e.until_)/\w'.cell? ⟨n0,5,none⟩=some (.string e.of)) (go_keep) (first|(refine hC.mono ?_;rintro q6 w6 ⟨rfl,hb6⟩;have re:=jaa hb6 qW;have ri:=jaa hb6 qX;have rk:=jaa hb6 qY;have rm:=jaa hb6 qZ;have rr:=jaa hb6 r8;have ru:=jaa hb6 r9;have fV:Zf w6 w.heap.size (.slice p m c) TT:=jac Bu hb6;have Ch:=MxA.of_below qG hb6;have cp:Bw w w6:=qtr bY hb6)|(go_at_call 235;refine(lA _ Ch).mono ?_;rintro q7 w7 ⟨rfl,ay⟩;have rf:=jaa ay re;have rj:=jaa ay ri;have rl:=jaa ay rk;have rp:=jaa ay rm;have rt:=jaa ay rr;have ry:=jaa ay ru;have cj:Zf w7 w.heap.size (.slice p m c) TT:=jac fV ay;have dz:Bw w w7:=qtr cp ay)|(go_at_call 234;refine(qp _ cj dz.size).mono ?_;rintro q8 w8 ⟨v8,rfl,dF,cT,jf⟩;obtain⟨p8,m8,c8,rfl⟩:=jad dF;have Df:=cT.cell (fun hg=>fi _ hg rfl) rf;have Dj:=cT.cell (fun hg=>fi _ hg rfl) rj;have Dl:=cT.cell (fun hg=>fi _ hg rfl) rl;have Dn:=cT.cell (fun hg=>fi _ hg rfl) rp;have Dp:=cT.cell (fun hg=>fi _ hg rfl) rt;have Dr:=cT.cell (fun hg=>fi _ hg rfl) ry))
        all_goals
         have tQ:w5.heap.size<=w7.heap.size:=by have h1:=hb6.size;have h2:=ay.size;have h3:wq.drew.heap.size=wq.heap.size:=rfl;omega
         have M7:Mid n0 n1 w5 w7:=(du.trans (Mid.of_below (n0:=n0) (n1:=n1) (jab wq) (by omega))).trans ((Mid.of_below (n0:=n0) (n1:=n1) hb6 (by have h3:wq.drew.heap.size=wq.heap.size:=rfl;omega)).trans (Mid.of_below (n0:=n0) (n1:=n1) ay (by have h1:=hb6.size;have h3:wq.drew.heap.size=wq.heap.size:=rfl;omega)))
         have M8:Mid n0 n1 w5 w8:=M7.trans fun g h1 h2=>cT.block g (by omega) fun hg=>by have:=jh.out g hg;omega
         have B8:Bw w w8:=dz.trans (cT.below (fun g hg=>mQ g hg) dz.size)
         have yP:Hid (Zf w8 w.heap.size (.slice p8 m8 c8) (ja8 (turnE e H) (L.take (j+1)) T0)):=by rw[lj.out,nJ.out];exact dF
         have yH:Hid (∀g,(Value.slice p8 m8 c8).ownBlock=some g->g<n0\/n1<=g):=fun g hg=>by
          rcases jf with h|⟨g2,h2,h3⟩
          ·exact jh.out g (h.symm.trans hg)
          ·rw[h2]at hg;injection hg with hg;omega
         have S8:w5.heap.size<=w8.heap.size:=Nat.le_trans tQ cT.size
         clear dF cT jf M7 hb6 ay fV cj hC lA qp
         go_wp2
         go_roundw
         case rel=>exact⟨j+1,p8,m8,c8,by omega,by go_num,rfl,yP.out,yH,M8,S8,B8⟩
         case measure=>simp[intOf];omega
       ·have jd:j=L.length:=by omega
        have lP:Hid (Zf wq w.heap.size (.slice p m c) (stK r E (k+1)).1):=by rw[HS.out];simp only;rw[<- HL.out];rw[jd,List.take_length]at bI;exact bI
        have mC:¬(j:Int)<(L.length:Int):=by omega
        have lN:Hid ((stK r E (k+1)).2=en):=by simp only[Hid];rw[HS.out]
        clear jd
        go_wp2
        go_roundw
        case rel=>exact⟨k+1,p,m,c,by omega,rfl,by rw[lN.out],by go_num,lP.out,rQ,dt⟩
        case measure=>simp[intOf];omega
     ·rw[if_neg hbe]at fY
      have lP:Hid (Zf w4 w.heap.size (.slice a6 m6 c6) (stK r E (k+1)).1):=by rw[fY];exact dX
      have lN:Hid ((stK r E (k+1)).2=en):=by simp only[Hid];rw[fY]
      clear fY
      go_wp2
      go_roundw
      case rel=>exact⟨k+1,a6,m6,c6,by omega,rfl,by rw[lN.out],by go_num,lP.out,rQ,aR⟩
      case measure=>simp[intOf];omega
  ·have kD:k=E.length:=by omega
   have HX:Hid (tabE r E=((stK r E k).1,decide ((stK r E k).1.length<=600))):=by simp only[Hid,tabE];rw[kD]at iA ⊢;rw[iA.out];rfl
   have eY:¬(k:Int)<(E.length:Int):=by omega
   obtain⟨⟨T0,b⟩,ei⟩:=qeb (stK r E k)
   rw[ei]at hT f8 HX fg
   simp only at hT f8 HX fg
   subst f8
   have hm:m6=T0.length:=by
    obtain⟨a,cap,h,_⟩:=hT.seq
    injection h
   subst hm
   clear kD ei
   by_cases h6:T0.length<=600
   ·have AM:(T0.length:Int)<=600:=by omega
    rw[dte h6]at HX
    go_wp2
    exact bpr (v:=.tuple #[.slice a6 T0.length c6,.bool true]) (by simp[results,Tryz.results207,go_sem]) rfl ⟨⟨_,_,T0,rfl,hT,HX.out,hB⟩⟩
   ·have AM:¬(T0.length:Int)<=600:=by omega
    rw[dfe h6]at HX
    go_wp2
    exact bpr (v:=.tuple #[.slice a6 T0.length c6,.bool false]) (by simp[results,Tryz.results207,go_sem]) rfl ⟨⟨_,_,T0,rfl,hT,HX.out,hB⟩⟩
def tabD(r:RelD)(nm:ByteArray):Int × List TurnD:=
 if nm.size<=8000 then(if relB r=true then(if (jao r nm).eras=[]then(5,[])else(if (tabE r (jao r nm).eras).2=true then(0,(tabE r (jao r nm).eras).1)else(7,[])))else(1,[]))else(2,[])
theorem j0y{r:RelD}{nm:ByteArray}(h:¬nm.size<=8000):tabD r nm=(2,[]):=if_neg h
theorem j0z{r:RelD}{nm:ByteArray}(h:nm.size<=8000)(h2:relB r=false):tabD r nm=(1,[]):=by unfold tabD;rw[if_pos h,if_neg (by rw[h2];simp)]
theorem ju5{r:RelD}{nm:ByteArray}(h:nm.size<=8000)(h2:relB r=true)(h3:(jao r nm).eras=[]):tabD r nm=(5,[]):=by unfold tabD;rw[if_pos h,if_pos h2,if_pos h3]
theorem ju4{r:RelD}{nm:ByteArray}{T:List TurnD}(h:nm.size<=8000)(h2:relB r=true)(h3:(jao r nm).eras≠[])(h4:tabE r (jao r nm).eras=(T,false)):tabD r nm=(7,[]):=by unfold tabD;rw[if_pos h,if_pos h2,if_neg h3,h4];rfl
theorem ju6{r:RelD}{nm:ByteArray}{T:List TurnD}(h:nm.size<=8000)(h2:relB r=true)(h3:(jao r nm).eras≠[])(h4:tabE r (jao r nm).eras=(T,true)):tabD r nm=(0,T):=by unfold tabD;rw[if_pos h,if_pos h2,if_neg h3,h4];rfl
theorem era_r{e:EraD}(h:eraP e=true):EraR e:=by
 unfold eraP at h
 simp only[bat,decide_eq_true_eq]at h
 obtain⟨h1,h2,h3,h4,h5,h6,_⟩:=h
 have hf:=odt h4
 unfold erB at h3
 refine⟨⟨h1,h2⟩,⟨h5,h6⟩,hf.2.1,fun h0=>?_,?_⟩
 ·have hE:e.rules.toList.isEmpty=true:=by
   rw[toList_dataA,List.isEmpty_iff, <- List.length_eq_zero_iff,jag]
   exact h0
  rw[if_pos hE]at h3
  exact jax h3
 ·split at h3
  ·rename_i hE
   rw[toList_dataA,List.isEmpty_iff, <- List.length_eq_zero_iff,jag]at hE
   omega
  ·simp only[bat]at h3
   exact(jf8 h3.1).2.1
theorem je7{r:RelD}{nm:ByteArray}(h:relB r=true)(az:(jao r nm).eras≠[]):jbh (jao r nm)=true/\∃i,jbg r.zones (jba r.links nm)=some i/\r.zones[i]? =some (jao r nm):=by
 have hz:∀z∈r.zones,jbh z=true:=by
  have h':=h
  unfold relB at h'
  simp only[bat,List.all_eq_true]at h'
  exact h'.2.2.1
 unfold jao at az ⊢
 rw[if_pos h]at az ⊢
 split at az
 ·rename_i i hi
  split at az
  ·rename_i z aF
   simp only[hi]
   exact⟨hz z (lmg aF),i,rfl,aF⟩
  ·exact absurd rfl az
 ·exact absurd rfl az
theorem jhv{z:ZoneD}(h:jbh z=true):(1<=z.eras.length/\z.eras.length<=8)/\∀e∈z.eras,EraR e:=by
 unfold jbh at h
 simp only[bat,List.all_eq_true]at h
 exact⟨odt h.2.1,fun e he=>era_r (h.2.2.1 e he)⟩
theorem jav{w:World}{b:Nat}{x0 x1 v0 v1:Value}(h0:w.cell? ⟨b,0,none⟩=some x0)(h1:w.cell? ⟨b,1,none⟩=some x1):
  ((w.setCell ⟨b,0,none⟩ v0).setCell ⟨b,1,none⟩ v1).cell? ⟨b,0,none⟩=some v0/\((w.setCell ⟨b,0,none⟩ v0).setCell ⟨b,1,none⟩ v1).cell? ⟨b,1,none⟩=some v1:=by
 refine⟨?_,?_⟩
 ·rw[wco _ _ _ _ (by simp),wcs _ _ _ h0]
 ·refine wcs _ _ _ (u:=x1) ?_
  rw[wco _ _ _ _ (by simp)];exact h1
structure Jt(r:RelD)(nm:ByteArray)(w:World)(q:Ending)(W':World):Prop where
 ex:∃v,q=.returned (.agg #[v,iv (tabD r nm).1])/\Zf W' w.heap.size v (tabD r nm).2/\Bw w W'
theorem jcs{r:RelD}{nm:ByteArray}{w w1:World}{c:Int}{b:Nat}(h:tabD r nm=(c,[]))(hB:Bw w w1)(hb:w.heap.size<=b):Jt r nm w (.returned (.agg #[nS,iv c])) ((w1.setCell ⟨b,0,none⟩ nS).setCell ⟨b,1,none⟩ (iv c)):=by
 refine⟨nS,by rw[h],by rw[h];exact World.ownsRow_nil _ _ _ _,(hB.setCell hb _).setCell hb _⟩
theorem jrh{x:RuleD}(h:jaw x=true):jaz x.name=true:=by
 unfold jaw at h
 simp only[bat]at h
 exact h.1
theorem jor(r:RelD)(v:Value)(nm:ByteArray)(w:World)(cg:Zx w)(hv:Zd w v r)(ok:r.ok)(sm:r.small)(di:∀x∈r.rules,x.on.size<=1048576)(hm:nm.size<=maxLen):
  Cl 179 #[v,.string nm] w fun q W'=>Jt r nm w q W':=by
 unfold maxLen at hm
 obtain⟨a,b,c,ca,cb,cc,rfl,hA,lV,nP⟩:=hv.form
 have hv:Zd w (.agg #[.slice a r.rules.length ca,.slice b r.zones.length cb,.slice c r.links.length cc]) r:=⟨⟨a,b,c,ca,cb,cc,rfl,hA,lV,nP⟩⟩
 clear lV nP
 have ag:=(qal w (.cells #[.slice a r.rules.length ca,.slice b r.zones.length cb,.slice c r.links.length cc] 37)).alloc (by simp) (.cells #[nS,iv 0] 140)
 obtain⟨fp,fq,ft,dJ,dK,fc,fd⟩:(fun z:World=>z.cell? ⟨w.heap.size,0,none⟩=some (.slice a r.rules.length ca)/\z.cell? ⟨w.heap.size,1,none⟩=some (.slice b r.zones.length cb)/\z.cell? ⟨w.heap.size,2,none⟩=some (.slice c r.links.length cc)/\z.cell? ⟨w.heap.size+1,0,none⟩=some nS/\z.cell? ⟨w.heap.size+1,1,none⟩=some (iv 0)/\z.frozen? ⟨w.heap.size+1,0,none⟩=false/\z.frozen? ⟨w.heap.size+1,1,none⟩=false) ((w.alloc (.cells #[.slice a r.rules.length ca,.slice b r.zones.length cb,.slice c r.links.length cc] 37)).alloc (.cells #[nS,iv 0] 140)):=by simp[go_sem]
 by_cases h1:nm.size<=8000
 case neg=>
  have g1:(8000:Int)<(nm.size:Int):=by omega
  have HT:Hid (tabD r nm=(2,[])):=j0y h1
  have HP:Hid (Jt r nm w (.returned (.agg #[nS,iv 2])) ((w.alloc (.cells #[.slice a r.rules.length ca,.slice b r.zones.length cb,.slice c r.links.length cc] 37)).alloc (.cells #[nS,iv 2] 140))):=⟨nS,by rw[HT.out],by rw[HT.out];exact World.ownsRow_nil _ _ _ _,(qal w _).alloc (by simp) _⟩
  clear h1 HT
  unfold Cl;go_in
  go_wp2
  exact bpr (v:=.agg #[nS,iv 2]) (by simp[results,Tryz.results179,go_sem]) rfl HP.out
 have g1:¬(8000:Int)<(nm.size:Int):=by omega
 have hR:=fun w hE (h:Zd w (.agg #[.slice a r.rules.length ca,.slice b r.zones.length cb,.slice c r.links.length cc]) r)=>jbr r _ w hE h ok sm di
 cases h2:relB r
 case false=>
  have HT:Hid (tabD r nm=(1,[])):=j0z h1 h2
  rw[h2]at hR
  clear h2 h1
  unfold Cl;go_in
  go_wp2_with fail
  refine(hR _ (cg.of_below ag) (hv.below ag)).mono ?_
  rintro q w1 ⟨rfl,hb1⟩
  have aj:=qtr ag hb1
  have eU:=jaa hb1 fp
  have eV:=jaa hb1 fq
  have eW:=jaa hb1 ft
  have dx:=jaa hb1 dJ
  have dL:=jaa hb1 dK
  have gO:=qfz hb1 dJ fc
  have gP:=qfz hb1 dK fd
  clear hb1 fp fq ft dJ dK fc fd
  obtain⟨t0,t1⟩:=jav (v0:=nS) (v1:=iv 1) dx dL
  have HP:Hid (Jt r nm w (.returned (.agg #[nS,iv 1])) ((w1.setCell ⟨w.heap.size+1,0,none⟩ nS).setCell ⟨w.heap.size+1,1,none⟩ (iv 1))):=jcs HT.out aj (by omega)
  go_wp2
  exact bpr (v:=.agg #[nS,iv 1]) (by simp[results,Tryz.results179,go_sem,t0,t1]) rfl HP.out
 have NH:=hid h2
 have hl:=jid h2
 have vd:=hl.1
 have HL:Hid (∀x∈r.rules,jaw x=true):=hl.2
 have hZ:=fun w hE (h:Zd w (.agg #[.slice a r.rules.length ca,.slice b r.zones.length cb,.slice c r.links.length cc]) r)=>jfe r _ nm w hE h ok sm di
 have hN:=fun w (h:Za w a 9 (r.rules.map RuleD.cs))=>jhd r.rules a ca w h vd (fun x hx=>by have:=(jf8 (jrh (HL.out x hx))).2.1;unfold maxLen;omega)
 have nT:=fun h=>ju5 (nm:=nm) h1 h2 h
 have py:=fun T h h'=>ju4 (nm:=nm) (T:=T) h1 h2 h h'
 have pu:=fun T h h'=>ju6 (nm:=nm) (T:=T) h1 h2 h h'
 have qd:=fun h=>je7 (nm:=nm) h2 h
 rw[h2]at hR
 obtain⟨⟨zn,E⟩,mS⟩:=qeb (jao r nm)
 rw[mS]at hZ nT py pu qd
 simp only at hZ nT py pu qd
 clear h2 hl mS
 unfold Cl;go_in
 go_wp2_with fail
 refine(hR _ (cg.of_below ag) (hv.below ag)).mono ?_
 rintro q w1 ⟨rfl,hb1⟩
 have aj:=qtr ag hb1
 have eU:=jaa hb1 fp
 have eV:=jaa hb1 fq
 have eW:=jaa hb1 ft
 have dx:=jaa hb1 dJ
 have dL:=jaa hb1 dK
 have gO:=qfz hb1 dJ fc
 have gP:=qfz hb1 dK fd
 clear hb1 hR fp fq ft dJ dK fc fd
 go_wp2_with fail
 refine(hZ _ (cg.of_below aj) (hv.below aj)).mono ?_
 rintro q w2 ⟨vz,rfl,uB,ac⟩
 have an:=qtr aj ac
 have wT:=jaa ac eU
 have wU:=jaa ac eV
 have wV:=jaa ac eW
 have ip:=jaa ac dx
 have kW:=jaa ac dL
 have oW:=qfz ac dx gO
 have tH:=qfz ac dL gP
 clear ac hZ eU eV eW dx dL gO gP
 rcases uB with⟨jy,rfl⟩|⟨g,cap,rfl,hgB,FU,hSE,_⟩
 ·have HT:Hid (tabD r nm=(5,[])):=nT jy
  have qA:∀w,(Instr.field 81 (.agg #[.string zn,nS]) 1).run Tryz.prog w=.ok nS w:=fun _=>by kernel_rfl
  clear nT py pu qd hN
  obtain⟨t0,t1⟩:=jav (v0:=nS) (v1:=iv 5) ip kW
  have HP:Hid (Jt r nm w (.returned (.agg #[nS,iv 5])) ((w2.setCell ⟨w.heap.size+1,0,none⟩ nS).setCell ⟨w.heap.size+1,1,none⟩ (iv 5))):=jcs HT.out an (by omega)
  go_wp2
  exact bpr (v:=.agg #[nS,iv 5]) (by simp[results,Tryz.results179,go_sem,t0,t1]) rfl HP.out
 ·have qA:∀w,(Instr.field 81 (.agg #[.string zn,.slice (some ⟨g,0,none⟩) E.length cap]) 1).run Tryz.prog w=.ok (.slice (some ⟨g,0,none⟩) E.length cap) w:=fun _=>by kernel_rfl
  by_cases eu:E=[]
  ·subst eu
   simp only[List.length_nil]at qA
   have HT:Hid (tabD r nm=(5,[])):=nT rfl
   clear nT py pu qd hN
   obtain⟨t0,t1⟩:=jav (v0:=nS) (v1:=iv 5) ip kW
   have HP:Hid (Jt r nm w (.returned (.agg #[nS,iv 5])) ((w2.setCell ⟨w.heap.size+1,0,none⟩ nS).setCell ⟨w.heap.size+1,1,none⟩ (iv 5))):=jcs HT.out an (by omega)
   go_wp2
   exact bpr (v:=.agg #[nS,iv 5]) (by simp[results,Tryz.results179,go_sem,t0,t1]) rfl HP.out
  ·obtain⟨lZ,ud⟩:=jhv (qd eu).1
   simp only at lZ ud
   have az:¬E.length=0:=by omega
   have Kp:¬(E.length:Int)=0:=by omega
   go_wp2_with fail
   refine(hN _ (hA.below an)).mono ?_
   rintro q w3 ⟨rfl,gT,ar⟩
   have ax:=qtr an ar
   have rH:=jaa ar wT
   have rI:=jaa ar wU
   have rJ:=jaa ar wV
   have kU:=jaa ar ip
   have mW:=jaa ar kW
   have oX:=qfz ar ip oW
   have oY:=qfz ar kW tH
   have qm:=jof r E (some ⟨g,0,none⟩) cap w2.heap.size (w2.heap.size+1) w3 (hSE.below ar) gT (cg.of_below ax) HL.out vd ud lZ.2
   clear ar hN wT wU wV ip kW oW tH
   go_wp2_with fail
   refine qm.mono ?_
   rintro q w4 ⟨v4,bb,T,rfl,dX,jE,aD⟩
   have aR:=qtr ax aD
   have MM:=jaa aD rH
   have MO:=jaa aD rI
   have MP:=jaa aD rJ
   have vY:=jaa aD kU
   have we:=jaa aD mW
   have II:=qfz aD kU oX
   have IK:=qfz aD mW oY
   obtain⟨a7,m7,d7,rfl⟩:=jad dX
   cases bb with
   |false=>
    have HT:Hid (tabD r nm=(7,[])):=py T eu jE
    clear aD qm jE nT py pu qd dX rH rI rJ kU mW oX oY
    obtain⟨t0,t1⟩:=jav (v0:=nS) (v1:=iv 7) vY we
    have HP:Hid (Jt r nm w (.returned (.agg #[nS,iv 7])) ((w4.setCell ⟨w.heap.size+1,0,none⟩ nS).setCell ⟨w.heap.size+1,1,none⟩ (iv 7))):=jcs HT.out aR (by omega)
    go_wp2
    exact bpr (v:=.agg #[nS,iv 7]) (by simp[results,Tryz.results179,go_sem,t0,t1]) rfl HP.out
   |true=>
    have HT:Hid (tabD r nm=(0,T)):=pu T eu jE
    have dh:∀g,(Value.slice a7 m7 d7).ownBlock=some g->w3.heap.size<=g:=fun g hg=>(World.ownsRow.lt dX g hg).1
    have gm:w.heap.size+1<w3.heap.size:=qbl kU
    have HP:Hid (Jt r nm w (.returned (.agg #[.slice a7 m7 d7,iv 0])) ((w4.setCell ⟨w.heap.size+1,0,none⟩ (.slice a7 m7 d7)).setCell ⟨w.heap.size+1,1,none⟩ (iv 0))):=⟨.slice a7 m7 d7,by rw[HT.out],by
     rw[HT.out]
     have h1:=jaj dX ax.size
     exact World.ownsRow.kept (World.ownsRow.kept h1 (jck w4 _ 0 _) (by cases hv:(Value.slice a7 m7 d7).ownBlock with
      |none=>exact .inl rfl
      |some g=>exact .inr fun e=>by have:=dh g hv;injection e with e;omega)) (jck _ _ 1 _) (by cases hv:(Value.slice a7 m7 d7).ownBlock with
      |none=>exact .inl rfl
      |some g=>exact .inr fun e=>by have:=dh g hv;injection e with e;omega),(aR.setCell (show w.heap.size<=w.heap.size+1 by omega) _).setCell (show w.heap.size<=w.heap.size+1 by omega) _⟩
    obtain⟨t0,t1⟩:=jav (v0:=.slice a7 m7 d7) (v1:=iv 0) vY we
    clear aD qm jE nT py pu qd dX rH rI rJ kU mW oX oY
    go_wp2
    exact bpr (v:=.agg #[.slice a7 m7 d7,iv 0]) (by simp[results,Tryz.results179,go_sem,t0,t1]) rfl HP.out
def UntE(E:List EraD):Prop:=∀k e,E[k]? =some e->(e.until_=253402300799↔k+1=E.length)
theorem jyf:∀{E:List EraD},upB E=true->∀{i j:Nat} {x y:EraD},i<j->E[i]? =some x->E[j]? =some y->x.until_<y.until_:=by
 intro E
 induction E with
 |nil=>intro _ i j x y _ hx;simp at hx
 |cons a E ih=>
  intro h i j x y eF hx hy
  cases E with
  |nil=>
   cases j with
   |zero=>omega
   |succ j=>simp at hy
  |cons b E=>
   rw[upB,bat]at h
   have h1:=odt h.1
   cases j with
   |zero=>omega
   |succ j=>
    rw[List.getElem?_cons_succ]at hy
    cases i with
    | zero=>
     simp at hx
     subst hx
     cases j with
     |zero=>simp at hy;subst hy;exact h1
     |succ j=>
      have:=ih h.2 (i:=0) (j:=j+1) (x:=b) (y:=y) (by omega) rfl hy
      omega
    |succ i=>exact ih h.2 (i:=i) (j:=j) (by omega) (by simpa using hx) hy
theorem jx3{z:ZoneD}(h:jbh z=true):UntE z.eras:=by
 unfold jbh at h
 simp only[bat]at h
 obtain⟨_,hl,_,hu,hla⟩:=h
 have hl:=odt hl
 intro k e he
 have eY:=(lgs he).1
 obtain⟨f,hf⟩:∃f,z.eras[z.eras.length-1]? =some f:=⟨_,lgg (by omega)⟩
 unfold laB2 at hla
 rw[hf]at hla
 simp only[bat,beq_iff_eq]at hla
 constructor
 ·intro h1
  rcases Nat.lt_or_ge (k+1) z.eras.length with h2|h2
  ·have:=jyf hu (i:=k) (j:=z.eras.length-1) (by omega) he hf
   omega
  ·omega
 ·intro h1
  have:k=z.eras.length-1:=by omega
  subst this
  rw[hf]at he
  injection he with he
  subst he
  exact hla.1
theorem jxk{E:List EraD}(hU:UntE E){k:Nat}{e:EraD}(he:E[k]? =some e)(h:k+1=E.length)(H:List HapD)(b:Int):endS e H b=253402300799:=if_pos ((hU k e he).mpr h)
theorem jxj{E:List EraD}(hU:UntE E){k:Nat}{e:EraD}(he:E[k]? =some e)(h:¬k+1=E.length)(H:List HapD)(b:Int):endS e H b=endE e H b:=if_neg fun h1=>h ((hU k e he).mp h1)
theorem jk2{r:RelD}{nm:ByteArray}{off:Int}(hr:∀x∈r.rules,jaw x=true)(h0:nm.size=0):ja2 r nm off=([],true):=by
 have hw:∀k,jaq nm r.rules k=[]:=by
  intro k
  induction k with
  |zero=>rfl
  |succ k ih=>
   rw[jaq,ih]
   split
   ·rename_i x hx
    split
    ·rename_i hn
     have h1:=(jf8 (jrh (hr x (lmg hx)))).1
     have h2:x.name=nm:=jhz (beq_iff_eq.mp hn)
     rw[h2]at h1
     omega
    ·rfl
   ·rfl
 unfold ja2
 rw[hw,if_pos (by simp)]
 rfl
structure Jl(s:Nat)(v0 v1 v2 z0 z1:Value)(W:World):Prop where
 x0:W.cell? ⟨s,0,none⟩=some v0
 x1:W.cell? ⟨s,1,none⟩=some v1
 x2:W.cell? ⟨s,2,none⟩=some v2
 y0:W.cell? ⟨s+1,0,none⟩=some z0
 y1:W.cell? ⟨s+1,1,none⟩=some z1
 r0:W.cell? ⟨s+1+1,0,none⟩=some nS
 f0:W.frozen? ⟨s+1+1,0,none⟩=false
 t:∃u,W.cell? ⟨s+1+1+1,0,none⟩=some u
 f1:W.frozen? ⟨s+1+1+1,0,none⟩=false
theorem Jl.fr{s:Nat}{v0 v1 v2 z0 z1:Value}{S:Nat->Prop}{W W':World}(h:Jl s v0 v1 v2 z0 z1 W)(hf:Fr S W W')(hs:∀g,S g->s+1+1+1+1<=g):Jl s v0 v1 v2 z0 z1 W':=by
 have n:∀k,k<s+1+1+1+1->¬S k:=fun k hk h=>by have:=hs k h;omega
 obtain⟨u,hu⟩:=h.t
 exact⟨hf.cell (n _ (by omega)) h.x0,hf.cell (n _ (by omega)) h.x1,hf.cell (n _ (by omega)) h.x2,hf.cell (n _ (by omega)) h.y0,hf.cell (n _ (by omega)) h.y1,hf.cell (n _ (by omega)) h.r0,(hf.frozen (qbl h.r0) (n (s+1+1) (by omega))).trans h.f0,⟨u,hf.cell (n _ (by omega)) hu⟩,(hf.frozen (qbl hu) (n (s+1+1+1) (by omega))).trans h.f1⟩
theorem Jl.below{s:Nat}{v0 v1 v2 z0 z1:Value}{W W':World}(h:Jl s v0 v1 v2 z0 z1 W)(hb:Bw W W'):Jl s v0 v1 v2 z0 z1 W':=h.fr (S:=fun _=>False) (Fr.of_below hb) fun _ h=>h.elim
theorem Jl.set{s:Nat}{v0 v1 v2 z0 z1:Value}{W:World}(h:Jl s v0 v1 v2 z0 z1 W)(u:Value):Jl s v0 v1 v2 z0 z1 (W.setCell ⟨s+1+1+1,0,none⟩ u):=by
 obtain⟨v,hv⟩:=h.t
 refine⟨?_,?_,?_,?_,?_,?_,by rw[World.frozen?_setCell];exact h.f0,⟨u,wcs _ _ _ hv⟩,by rw[World.frozen?_setCell];exact h.f1⟩
 ·rw[wco _ _ _ _ (by simp)];exact h.x0
 ·rw[wco _ _ _ _ (by simp)];exact h.x1
 ·rw[wco _ _ _ _ (by simp)];exact h.x2
 ·rw[wco _ _ _ _ (by simp)];exact h.y0
 ·rw[wco _ _ _ _ (by simp)];exact h.y1
 ·rw[wco _ _ _ _ (by simp)];exact h.r0
structure TabSP(r:RelD)(E:List EraD)(w:World)(q:Ending)(W':World):Prop where
 ex:∃v b T,q=.returned (.tuple #[.agg #[v],.bool b])/\Zf W' w.heap.size v T/\b=(tabE r E).2/\(b=true->T=(tabE r E).1)/\Bw w W'
