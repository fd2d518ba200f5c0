/- Packed. -/
import Derived.Test.YtofdpfpdocpbpaaGreatDoorTbPd
import Derived.Test.YtofdpfpdocpbpaaGreatDoorHpUd
import Derived.Deep.RegionHeld3
import Derived.Test.YtofdpfpdocpbpaaGreatDoorZonePd
import Derived.Test.YtofdpfpdocpbpaaGreatDoorTsPd
set_option maxRecDepth 20000
set_option maxHeartbeats 20000000
set_option linter.unusedSimpArgs false
namespace Go.Proofs.YtofdpfpdocpbpaaGreatDoor
section
open Go.RowKit Go.Sort
structure EraR(e:EraD):Prop where
 off: -86400<=e.offset/\e.offset<=86400
 unt: -62135596800<=e.until_/\e.until_<=253402300799
 fmt:e.format.size<=12
 sav:e.rules.size=0-> -7200<=e.save/\e.save<=7200
 nam:e.rules.size<=20
theorem jsi{e:EraD}{H:List HapD}(he:EraR e)(hH:∀h∈H,HapB h)(t:Int):(-7200<=(jbd e H t).save/\(jbd e H t).save<=7200)/\(jbd e H t).letter.size<=6:=by
 by_cases h0:e.rules.size=0
 ·rw[jou h0]
  exact⟨he.sav h0,by simp[ByteArray.size]⟩
 ·rw[jlj h0]
  cases hc:hcnt H t with
  | zero=>
   refine⟨by simp[jju],?_⟩
   show(jcv H).size<=6
   clear hc
   induction H with
   |nil=>simp[jcv,ByteArray.size]
   |cons a H ih=>
    rw[jcv]
    split
    ·exact(hH a (by simp)).letter
    ·exact ih fun h hh=>hH h (List.mem_cons_of_mem _ hh)
  |succ m=>
   obtain⟨x,hx⟩:∃x,H[m]? =some x:=⟨_,List.getElem?_eq_getElem (by have:=jya H t;omega)⟩
   have hB:=hH x (List.mem_of_getElem? hx)
   simp only[jju]
   rw[hx]
   exact⟨hB.save,hB.letter⟩
def j7y(r:RelD)(last:Bool)(e:EraD)(st:List TurnD × Int):List TurnD × Int:=
 if last=true then(jbi (jbg e (ja9 r e.rules e.offset).1) (atsF st.2 (inX (ja9 r e.rules e.offset).1 st.2 253402300799)) st.1,253402300799)
 else(if st.2<endE e (ja9 r e.rules e.offset).1 st.2 then jbi (jbg e (ja9 r e.rules e.offset).1) (atsF st.2 (inX (ja9 r e.rules e.offset).1 st.2 (endE e (ja9 r e.rules e.offset).1 st.2))) st.1 else st.1,endE e (ja9 r e.rules e.offset).1 st.2)
def stK(r:RelD)(E:List EraD):Nat->List TurnD × Int
 |0=>([], -62135596800)
 |k+1=>match E[k]? with
  |some e=>j7y r (decide (k+1=E.length)) e (stK r E k)
  |none=>stK r E k
def okK(r:RelD)(E:List EraD):Nat->Bool
 |0=>true
 |k+1=>okK r E k&&(match E[k]? with|some e=>(ja9 r e.rules e.offset).2|none=>true)
def tabE(r:RelD)(E:List EraD):List TurnD × Bool:=if okK r E E.length=true then((stK r E E.length).1,decide ((stK r E E.length).1.length<=600))else([],false)
theorem j8b{r:RelD}{E:List EraD}{k:Nat}{e:EraD}(he:E[k]? =some e)(h:(ja9 r e.rules e.offset).2=false):∀{n:Nat},k<n->okK r E n=false:=by
 intro n
 induction n with
 |zero=>intro hn;omega
 |succ n ih=>
  intro hn
  rw[okK]
  by_cases e1:k=n
  ·subst e1;rw[he];simp[h]
  ·rw[ih (by omega)];rfl
theorem j5l{r:RelD}{E:List EraD}{k:Nat}{e:EraD}(he:E[k]? =some e)(h:(ja9 r e.rules e.offset).2=true)(hk:okK r E k=true):okK r E (k+1)=true:=by rw[okK,hk,he];simp[h]
theorem jrj{r:RelD}{E:List EraD}{k:Nat}{e:EraD}{T:List TurnD}{b:Int}(he:E[k]? =some e)(hk:k+1=E.length)(hs:stK r E k=(T,b)):stK r E (k+1)=(jbi (jbg e (ja9 r e.rules e.offset).1) (atsF b (inX (ja9 r e.rules e.offset).1 b 253402300799)) T,253402300799):=by
 rw[stK,he]
 simp only
 rw[decide_eq_true hk,hs]
 rfl
theorem jri{r:RelD}{E:List EraD}{k:Nat}{e:EraD}{T:List TurnD}{b:Int}(he:E[k]? =some e)(hk:¬k+1=E.length)(hs:stK r E k=(T,b)):stK r E (k+1)=(if b<endE e (ja9 r e.rules e.offset).1 b then jbi (jbg e (ja9 r e.rules e.offset).1) (atsF b (inX (ja9 r e.rules e.offset).1 b (endE e (ja9 r e.rules e.offset).1 b))) T else T,endE e (ja9 r e.rules e.offset).1 b):=by
 rw[stK,he]
 simp only
 rw[decide_eq_false hk,hs]
 rfl
theorem j70{r:RelD}{E:List EraD}:∀k,(-62135596800<=(stK r E k).2/\(stK r E k).2<=253402300799)/\(stK r E k).1.length<=2001*k:=by
 intro k
 induction k with
 |zero=>simp[stK]
 |succ k ih=>
  rw[stK]
  split
  ·rename_i e he
   obtain⟨⟨i1,i2⟩,i3⟩:=ih
   have hl:=jf6 (r:=r) (nm:=e.rules) (off:=e.offset)
   generalize (ja9 r e.rules e.offset).1=H at *
   have hx:∀n,(atsF (stK r E k).2 (inX H (stK r E k).2 n)).length<=2001:=fun n=>by
    have h1:=jq6 (stK r E k).2 (inX H (stK r E k).2 n)
    have h2:=jfe H (stK r E k).2 n
    omega
   unfold j7y
   split
   ·refine⟨by simp,?_⟩
    have h1:=jf9 (jbg e (ja9 r e.rules e.offset).1) (atsF (stK r E k).2 (inX (ja9 r e.rules e.offset).1 (stK r E k).2 253402300799)) (stK r E k).1
    have h2:=jq6 (stK r E k).2 (inX (ja9 r e.rules e.offset).1 (stK r E k).2 253402300799)
    have h3:=jfe (ja9 r e.rules e.offset).1 (stK r E k).2 253402300799
    have h4:=jf6 (r:=r) (nm:=e.rules) (off:=e.offset)
    show(jbi _ _ _).length<=_
    omega
   ·refine⟨?_,?_⟩
    ·show _<=endE e _ _/\endE e _ _<=_
     unfold endE
     omega
    ·show(if _ then _ else _:List TurnD).length<=_
     split
     ·have h1:=jf9 (jbg e (ja9 r e.rules e.offset).1) (atsF (stK r E k).2 (inX (ja9 r e.rules e.offset).1 (stK r E k).2 (endE e (ja9 r e.rules e.offset).1 (stK r E k).2))) (stK r E k).1
      have h2:=jq6 (stK r E k).2 (inX (ja9 r e.rules e.offset).1 (stK r E k).2 (endE e (ja9 r e.rules e.offset).1 (stK r E k).2))
      have h3:=jfe (ja9 r e.rules e.offset).1 (stK r E k).2 (endE e (ja9 r e.rules e.offset).1 (stK r E k).2)
      have h4:=jf6 (r:=r) (nm:=e.rules) (off:=e.offset)
      omega
     ·omega
  ·omega
end
section
open Go.RowKit Go.Sort
structure TurnsP(r:RelD)(E:List EraD)(w:World)(q:Ending)(W':World):Prop where
 ex:∃v b T,q=.returned (.tuple #[v,.bool b])/\Zn W' w.heap.size v T/\tabE r E=(T,b)/\Below w.heap.size w W'
theorem jpp{P:List RuleD}:∀r∈P.map RuleD.cs,r.length=9:=fun r hr=>by
 obtain⟨x,_,rfl⟩:=List.mem_map.mp hr
 rfl
theorem jwm{x:RuleD}(h:jbm x=true):onB x.on=true:=by
 unfold jbm at h
 simp only[Bool.and_eq_true]at h
 exact h.2.2.2.2.1
theorem jny(r:RelD)(E:List EraD)(ae:Option Addr)(cae mb base:Nat)(w:World)(hE:Zd w ae 6 (E.map EraD.cs))(hM:Jl w base mb r.rules)(hEnv:Zm w)(hr:∀x∈r.rules,jbm x=true)(hrl:r.rules.length<=40)(hP:∀e∈E,EraR e)(hl:E.length<=8):
  Calls Tryz.prog 215 #[.slice ae E.length cae,.map (some mb)] w fun q W'=>TurnsP r E w q W':=by
 have HR:=hid hr
 have HP:=hid hP
 have hMxA:MxA w:=hEnv.2
 have HM:=hid hM
 have HV:=hid hEnv
 clear hr hP hM hEnv
 go_enter Tryz.func215,Tryz.ntmps215
 go_wp2
 go_loopw [6,7,19] (fun s6 s7 s19 wr=>∃(k:Nat) (a6:Option Addr) (m6 c6:Nat),k<=E.length/\s6=.slice a6 m6 c6/\s7=.int .i64 (stK r E k).2/\s19=.int .i64 k/\Zn wr w.heap.size (.slice a6 m6 c6) (stK r E k).1/\Hid (okK r E k=true)/\Below w.heap.size w wr) (fun _ _ s19 _=>E.length-(intOf s19).toNat)
 case atStart=>exact⟨0,none,0,0,by omega,rfl,rfl,rfl,World.ownsRow_nil _ _ _ _,rfl,Below.refl _ _⟩
 case round=>
  obtain⟨k,a6,m6,c6,hk,rfl,hs7,rfl,hT,hOk,hB⟩:=hrel
  obtain⟨⟨hb1,hb2⟩,hTl0⟩:=j70 (r:=r) (E:=E) k
  by_cases hlt:k<E.length
  ·obtain ⟨e,he⟩:=qgg hlt
   have eR:=HP.out e (List.mem_of_getElem? he)
   obtain⟨be,oe,rfl,hc⟩:=(hE.below hB).at (i:=k) (r:=e.cs) (by rw[List.getElem?_map,he];rfl)
   have c0:wr.cell? ⟨be,oe+k*6,none⟩=some (.int .i64 e.offset):=hc 0 _ rfl
   have c1:=hc 1 _ rfl
   have c2:=hc 2 _ rfl
   have c3:=hc 3 _ rfl
   have c4:=hc 4 _ rfl
   have c5:=hc 5 _ rfl
   obtain⟨⟨T0,b⟩,hst⟩:∃st,stK r E k=st:=⟨_,rfl⟩
   rw[hst]at hT hs7 hb1 hb2 hTl0
   simp only at hT hs7 hb1 hb2 hTl0
   subst hs7
   have hsW:=hB.size
   have hbA:=qal wr (.cells #[.int .i64 e.offset,.string e.rules,.int .i64 e.save,.string e.format,.int .i64 e.until_,.string e.of] 148)
   have hB1:Below w.heap.size w (wr.alloc (.cells #[.int .i64 e.offset,.string e.rules,.int .i64 e.save,.string e.format,.int .i64 e.until_,.string e.of] 148)):=hB.alloc hsW _
   obtain⟨d0_1,d1_1,d2_1,d3_1,d4_1,d5_1⟩:(fun z:World=>z.cell? ⟨wr.heap.size,0,none⟩=some (.int .i64 e.offset)/\z.cell? ⟨wr.heap.size,1,none⟩=some (.string e.rules)/\z.cell? ⟨wr.heap.size,2,none⟩=some (.int .i64 e.save)/\z.cell? ⟨wr.heap.size,3,none⟩=some (.string e.format)/\z.cell? ⟨wr.heap.size,4,none⟩=some (.int .i64 e.until_)/\z.cell? ⟨wr.heap.size,5,none⟩=some (.string e.of)) (wr.alloc (.cells #[.int .i64 e.offset,.string e.rules,.int .i64 e.save,.string e.format,.int .i64 e.until_,.string e.of] 148)):=by simp[go_sem]
   obtain⟨vl,hlk,hOl,_⟩:=jxf (P:=Tryz.prog) (T:=300) (HM.out.kept ⟨hB1.os,hB1.tape,hB1.output,hB1.size,fun k hk _=>hB1.block k hk⟩) Tryz.underlying300 Tryz.underlying9 jmx e.rules (by have:=eR.nam;unfold maxLen;omega)
   obtain⟨al,cl,rfl,hSl,_⟩:=jav (rows:=(jbo r.rules e.rules).map RuleD.cs) (by rw[List.length_map];exact hOl) jpp
   have hlk:=hlk (wr.alloc (.cells #[.int .i64 e.offset,.string e.rules,.int .i64 e.save,.string e.format,.int .i64 e.until_,.string e.of] 148)) rfl
   rw[List.length_map]at hlk
   have hmem:∀x∈jbo r.rules e.rules,jbm x=true:=fun x hx=>HR.out x (List.mem_filter.mp hx).1
   have hEv1:=HV.out.of_below hB1
   have hH:=jqa (jbo r.rules e.rules) al cl e.offset (wr.alloc (.cells #[.int .i64 e.offset,.string e.rules,.int .i64 e.save,.string e.format,.int .i64 e.until_,.string e.of] 148)) hSl hEv1.1 hEv1.2 (fun x hx=>j3x (hmem x hx)) (Nat.le_trans (List.length_filter_le _ _) hrl) (fun x hx=>j01 (jwm (hmem x hx))) eR.off.1 eR.off.2
   have hs1:(wr.alloc (.cells #[.int .i64 e.offset,.string e.rules,.int .i64 e.save,.string e.format,.int .i64 e.until_,.string e.of] 148)).heap.size=wr.heap.size+1:=by simp
   rw[hs1]at hH
   have hkl:(k:Int)<(E.length:Int):=by omega
   clear hc hOl hSl hmem hEv1
   go_wp2_with fail
   refine hH.mono ?_
   rintro q w2 ⟨v2,H,bb,rfl,hO2,hA2,hbw2⟩
   obtain⟨hH1,hH2⟩:=j16 hA2
   obtain⟨a2,ca2,rfl,sH2⟩:=hO2.seq
   have hB2:=hB1.trans (hbw2.mono (by omega))
   have d0_2:=jab (by first|exact hbw2|exact hs1.symm ▸ hbw2) d0_1
   have d1_2:=jab (by first|exact hbw2|exact hs1.symm ▸ hbw2) d1_1
   have d2_2:=jab (by first|exact hbw2|exact hs1.symm ▸ hbw2) d2_1
   have d3_2:=jab (by first|exact hbw2|exact hs1.symm ▸ hbw2) d3_1
   have d4_2:=jab (by first|exact hbw2|exact hs1.symm ▸ hbw2) d4_1
   have d5_2:=jab (by first|exact hbw2|exact hs1.symm ▸ hbw2) d5_1
   cases bb with
   |false=>
    have HX:Hid (tabE r E=([],false)):=by simp only[Hid,tabE];rw[j8b he hH2.symm hlt];rfl
    clear hH hA2 hH1 hH2 hO2 sH2 hlk
    go_wp2
    exact bodyPost_ret (v:=.tuple #[.slice none 0 0,.bool false]) (by simp[results,Tryz.results215,go_sem]) rfl ⟨⟨_,_,[],rfl,World.ownsRow_nil _ _ _ _,HX.out,hB2⟩⟩
   | true =>
    have HOK:Hid (okK r E (k+1)=true):=j5l he hH2.symm hOk.out
    have hHb:=jqk (nm:=e.rules) HR.out eR.off.1 eR.off.2
    have hHl:=jf6 (r:=r) (nm:=e.rules) (off:=e.offset)
    have hSL:=fun h=>jrj (r:=r) (T:=T0) (b:=b) he h hst
    have hSM:=fun h=>jri (r:=r) (T:=T0) (b:=b) he h hst
    rw[<- hH1]at hHb hHl hSL hSM
    have HFb:Hid (∀t,(-7200<=(jbd e H t).save/\(jbd e H t).save<=7200)/\(jbd e H t).letter.size<=6):=jsi eR hHb
    have hef:=eR.fmt
    have he3:=eR.off.1
    have he4:=eR.off.2
    have ha2:∀b o,a2=some ⟨b,o,none⟩->wr.heap.size<=b/\b<w2.heap.size:=fun b o h=>by
     have h1:=World.ownsRow.lt hO2 b (by rw[h];rfl)
     omega
    have hIF:=joe e H a2 ca2 wr.heap.size w2 sH2 ha2 (by have:=hbw2.size;omega) (fun h hh=>(hHb h hh).at_) hHl
    simp only[EraD.v]at hIF
    have hO2':=jad (jad hT hbA) (by first|exact hbw2|exact hs1.symm ▸ hbw2)
    have hlo:∀g,(Value.slice a6 m6 c6).ownBlock=some g->g<wr.heap.size:=fun g hg=>(World.ownsRow.lt hT g hg).2
    clear hH hA2 hH1 hH2 hO2 hlk hst hOk hT
    go_wp2_with fail
    refine hIF.mono ?_
    rintro q w3 ⟨K,cap,rfl,hF3,hbw3⟩
    have hB3:=qtr hB2 hbw3
    have hO3:=jad hO2' hbw3
    have sH3:=sH2.below hbw3
    have hN3:wr.heap.size<=w3.heap.size:=by have h1:=hbw2.size;have h2:=hbw3.size;omega
    have hN3':wr.heap.size<w3.heap.size:=by have h1:=hbw2.size;have h2:=hbw3.size;omega
    have hsW0:=hsW
    have d0_3:=jab hbw3 d0_2
    have d1_3:=jab hbw3 d1_2
    have d2_3:=jab hbw3 d2_2
    have d3_3:=jab hbw3 d3_2
    have d4_3:=jab hbw3 d4_2
    have d5_3:=jab hbw3 d5_2
    clear hIF hbw3 hO2' sH2 ha2 hbw2 hbA hs1 d0_1 d1_1 d2_1 d3_1 d4_1 d5_1 d0_2 d1_2 d2_2 d3_2 d4_2 d5_2 c0 c1 c2 c3 c4 c5
    obtain⟨n0,hn0⟩:∃n,wr.heap.size=n:=⟨_,rfl⟩
    obtain⟨nF,hnF⟩:∃n,w3.heap.size=n:=⟨_,rfl⟩
    rw[hn0]at d0_3 d1_3 d2_3 d3_3 d4_3 d5_3 hF3 hN3 hN3' hlo hsW0
    rw[hnF]at hF3 hN3'
    have hnF3:nF<=w3.heap.size:=by omega
    rw[hn0]
    clear hn0 hnF hB1 hB2
    by_cases hla:k+1=E.length
    ·have hq:((k:Int)==(E.length:Int)-1)=true:=by simp;omega
     have HS:Hid (stK r E (k+1)=(jbi (jbg e H) (atsF b (inX H b 253402300799)) T0,253402300799)):=hSL hla
     have hTT:=je5 H a2 ca2 b 253402300799 w3 sH3 hHl
     clear hSL hSM hla
     go_wp2_with fail
     refine hTT.mono ?_
     rintro q w5 ⟨vL,L,rfl,hOL,hLs,hLp,hb5⟩
     have HL:Hid (jbi (jbg e H) L T0=jbi (jbg e H) (atsF b (inX H b 253402300799)) T0):=jkz (jbg e H) hLs hLp T0
     have hLl:L.length<=2001:=by have h1:=hLp.length_eq;have h2:=jfe H b 253402300799;simp only[List.length_cons]at h1;omega
     obtain⟨aL,mL,cL,hvL⟩:=jaq hOL
     subst hvL
     have hL0:0<L.length:=by have h1:=hLp.length_eq;simp only[List.length_cons]at h1;omega
     obtain⟨gL,capL,hLv,_,hLg,hLb,hLc⟩:=hOL.open hL0
     injection hLv with hLv1 hLv2 hLv3
     subst hLv1 hLv2 hLv3
     have HLc:=hid hLc
     have hB5:=qtr hB3 hb5
     have m5:Mid n0 nF w3 w5:=Mid.of_below hb5 hnF3
     have hF5:=hF3.mid m5
     have d0_5:=jab hb5 d0_3
     have d1_5:=jab hb5 d1_3
     have d2_5:=jab hb5 d2_3
     have d3_5:=jab hb5 d3_3
     have d4_5:=jab hb5 d4_3
     have d5_5:=jab hb5 d5_3
     have hO5:=jad hO3 hb5
     have h5s:nF<=w5.heap.size:=Nat.le_trans hnF3 hb5.size
     obtain⟨n1,hn1⟩:∃n,w5.heap.size=n:=⟨_,rfl⟩
     have hLg1:gL<n1:=by rw[<- hn1];exact hLg
     have hLb1:n0<=gL:=Nat.le_trans hN3 hLb
     have hnF1:nF<=n1:=by rw[<- hn1];exact h5s
     have hloc5:∀g,(Value.slice a6 m6 c6).ownBlock=some g->g<n0\/n1<=g:=fun g hg=>.inl (hlo g hg)
     have hn01:n0<n1:=by omega
     have hn1b:n1<=w5.heap.size:=by omega
     have hwn:w.heap.size<=n0:=hsW0
     clear hOL hLs hLp hLc hb5 hLg hLb hn1 h5s
     go_wp2
     go_loopw [6,61] (fun s6 s61 wq=>∃(j:Nat) (p:Option Addr) (m c:Nat),j<=L.length/\s61=.int .i64 j/\s6=.slice p m c/\Zn wq w.heap.size (.slice p m c) (jbi (jbg e H) (L.take j) T0)/\Hid (∀g,(Value.slice p m c).ownBlock=some g->g<n0\/n1<=g)/\Mid n0 n1 w5 wq/\w5.heap.size<=wq.heap.size/\Below w.heap.size w wq) (fun _ s61 _=>L.length-(intOf s61).toNat)
     case atStart=>exact⟨0,a6,m6,c6,by omega,rfl,rfl,hO5,hloc5,Mid.refl _ _ _,Nat.le_refl _,hB5⟩
     case round=>
      obtain⟨wq,hwq⟩:∃x:World,x=wr:=⟨_,rfl⟩
      subst hwq
      obtain⟨j,p,m,c,hj,rfl,rfl,hOq,hlq,hMq,hsq,hBq⟩:=hrel
      by_cases hjl:j<L.length
      ·obtain⟨t,ht⟩:=qgg hjl
       have ct:wq.cell? ⟨gL,j,none⟩=some (.int .i64 t):=hMq.cell hLb1 hLg1 (HLc.out j t ht)
       have HTk:Hid (jbi (jbg e H) (L.take (j+1)) T0=addT (jbi (jbg e H) (L.take j) T0) (jbg e H t)):=by simp only[Hid];rw[List.take_add_one,ht];exact jlk _ _ _ _
       have hTl:(jbi (jbg e H) (L.take j) T0).length<=100000:=by
        have h1:=jf9 (jbg e H) (L.take j) T0
        have h2:(L.take j).length<=L.length:=by rw[List.length_take];omega
        omega
       obtain⟨TT,hTT⟩:∃TT,jbi (jbg e H) (L.take j) T0=TT:=⟨_,rfl⟩
       rw[hTT]at hOq HTk hTl
       have q0_6:=hMq.cell (Nat.le_refl _) hn01 d0_5
       have q1_6:=hMq.cell (Nat.le_refl _) hn01 d1_5
       have q2_6:=hMq.cell (Nat.le_refl _) hn01 d2_5
       have q3_6:=hMq.cell (Nat.le_refl _) hn01 d3_5
       have q4_6:=hMq.cell (Nat.le_refl _) hn01 d4_5
       have q5_6:=hMq.cell (Nat.le_refl _) hn01 d5_5
       have hBD:Below w.heap.size w wq.drew:=hBq.trans ((jaa wq).mono hBq.size)
       have hC:=hF5.tell wq.drew t (fun g h1 h2=>hMq g h1 (by omega))
       have hgo:=hF5.go
       obtain⟨⟨sv1,sv2⟩,slt⟩:=HFb.out t
       have hTO:=fun w1 hM=>ji2 e (jbd e H t) t w1 hM (by have:=hef;omega) (by omega) he3 he4 sv1 sv2
       have HTE:Hid (jbg e H t=jj9 e (jbd e H t) t):=rfl
       have hWT:=fun w1 h1 h2=>jfy TT (jj9 e (jbd e H t) t) (.slice p m c) w.heap.size w1 h1 h2 hTl
       generalize jbd e H t=F at *
       obtain⟨fa,fs,fl⟩:=F
       generalize jj9 e ⟨fa,fs,fl⟩ t=X at *
       obtain⟨xa,xo,xs,xb⟩:=X
       simp only[HapD.v,TurnD.v,EraD.v]at hC hTO hWT
       have hOD:Zn wq.drew w.heap.size (.slice p m c) TT:=hOq
       have hmxD:MxA wq.drew:=MxA.of_below hMxA hBD
       have hjl2:(j:Int)<(L.length:Int):=by omega
       have hen:∀g,(Value.slice p m c).ownBlock=some g->¬g=n0:=fun g hg=>by have:=hlq.out g hg;omega
       have hwb:∀g,(Value.slice p m c).ownBlock=some g->w.heap.size<=g:=fun g hg=>(World.ownsRow.lt hOq g hg).1
       clear ht hTT
       go_wp2_with fail
       go_region_held3 (fun w'=>w'.cell? ⟨n0,0,none⟩=some (.int .i64 e.offset)/\w'.cell? ⟨n0,1,none⟩=some (.string e.rules)/\w'.cell? ⟨n0,2,none⟩=some (.int .i64 e.save)/\w'.cell? ⟨n0,3,none⟩=some (.string e.format)/\w'.cell? ⟨n0,4,none⟩=some (.int .i64 e.until_)/\w'.cell? ⟨n0,5,none⟩=some (.string e.of)) (go_keep) (first|(refine hC.mono ?_;rintro q6 w6 ⟨rfl,hb6⟩;have s0_6:=jab hb6 q0_6;have s1_6:=jab hb6 q1_6;have s2_6:=jab hb6 q2_6;have s3_6:=jab hb6 q3_6;have s4_6:=jab hb6 q4_6;have s5_6:=jab hb6 q5_6;have hO6:Zn w6 w.heap.size (.slice p m c) TT:=jad hOD hb6;have hm6:=MxA.of_below hmxD hb6;have hB6:Below w.heap.size w w6:=qtr hBD hb6)|(go_at_call 257;refine(hTO _ hm6).mono ?_;rintro q7 w7 ⟨rfl,hb7⟩;have s0_7:=jab hb7 s0_6;have s1_7:=jab hb7 s1_6;have s2_7:=jab hb7 s2_6;have s3_7:=jab hb7 s3_6;have s4_7:=jab hb7 s4_6;have s5_7:=jab hb7 s5_6;have hO7:Zn w7 w.heap.size (.slice p m c) TT:=jad hO6 hb7;have hB7:Below w.heap.size w w7:=qtr hB6 hb7)|(go_at_call 256;refine(hWT _ hO7 hB7.size).mono ?_;rintro q8 w8 ⟨v8,rfl,hO8,hFr,hlc⟩;obtain⟨p8,m8,c8,rfl⟩:=jaq hO8;have s0_8:=hFr.cell (fun hg=>hen _ hg rfl) s0_7;have s1_8:=hFr.cell (fun hg=>hen _ hg rfl) s1_7;have s2_8:=hFr.cell (fun hg=>hen _ hg rfl) s2_7;have s3_8:=hFr.cell (fun hg=>hen _ hg rfl) s3_7;have s4_8:=hFr.cell (fun hg=>hen _ hg rfl) s4_7;have s5_8:=hFr.cell (fun hg=>hen _ hg rfl) s5_7))
       all_goals
        have h67:w5.heap.size<=w7.heap.size:=by have h1:=hb6.size;have h2:=hb7.size;have h3:wq.drew.heap.size=wq.heap.size:=rfl;omega
        have M7:Mid n0 n1 w5 w7:=(hMq.trans (Mid.of_below (n0:=n0) (n1:=n1) (jaa wq) (by omega))).trans ((Mid.of_below (n0:=n0) (n1:=n1) hb6 (by have h3:wq.drew.heap.size=wq.heap.size:=rfl;omega)).trans (Mid.of_below (n0:=n0) (n1:=n1) hb7 (by have h1:=hb6.size;have h3:wq.drew.heap.size=wq.heap.size:=rfl;omega)))
        have M8:Mid n0 n1 w5 w8:=M7.trans fun g h1 h2=>hFr.block g (by omega) fun hg=>by have:=hlq.out g hg;omega
        have B8:Below w.heap.size w w8:=hB7.trans (hFr.below (fun g hg=>hwb g hg) hB7.size)
        have HO8:Hid (Zn w8 w.heap.size (.slice p8 m8 c8) (jbi (jbg e H) (L.take (j+1)) T0)):=by rw[HTk.out,HTE.out];exact hO8
        have HL8:Hid (∀g,(Value.slice p8 m8 c8).ownBlock=some g->g<n0\/n1<=g):=fun g hg=>by
         rcases hlc with h|⟨g2,h2,h3⟩
         ·exact hlq.out g (h.symm.trans hg)
         ·rw[h2]at hg;injection hg with hg;omega
        have S8:w5.heap.size<=w8.heap.size:=Nat.le_trans h67 hFr.size
        clear hO8 hFr hlc M7 hb6 hb7 hO6 hO7 hC hTO hWT
        go_wp2
        go_roundw
        case rel=>exact⟨j+1,p8,m8,c8,by omega,by go_num,rfl,HO8.out,HL8,M8,S8,B8⟩
        case measure=>simp[intOf];omega
      ·have hje:j=L.length:=by omega
       have HOe:Hid (Zn wq w.heap.size (.slice p m c) (stK r E (k+1)).1):=by rw[HS.out];simp only;rw[<- HL.out];rw[hje,List.take_length]at hOq;exact hOq
       have hjl2:¬(j:Int)<(L.length:Int):=by omega
       have HBe:Hid ((stK r E (k+1)).2=253402300799):=by simp only[Hid];rw[HS.out]
       clear hje
       go_wp2
       go_roundw
       case rel=>exact⟨k+1,p,m,c,by omega,rfl,by rw[HBe.out],by go_num,HOe.out,HOK,hBq⟩
       case measure=>simp[intOf];omega
    ·have hq:((k:Int)==(E.length:Int)-1)=false:=by simp;omega
     have hSM:=hSM hla
     have hEE:=jqe e H n0 nF K cap b w3 hF3 hnF3 eR.unt.1 eR.unt.2 eR.off.1 eR.off.2 (fun t=>(HFb.out t).1)
     simp only[EraD.v]at hEE
     have hbd:b<=endE e H b/\endE e H b<=253402300799:=by unfold endE;omega
     clear hSL hla
     generalize endE e H b=en at *
     go_wp2_with fail
     refine hEE.mono ?_
     rintro q w4 ⟨rfl,hbw4⟩
     have hB4:=qtr hB3 hbw4
     have hO4:=jad hO3 hbw4
     have sH4:=sH3.below hbw4
     have hN4:n0<=w4.heap.size:=by have h1:=hbw4.size;omega
     have hnF4:nF<=w4.heap.size:=by have h1:=hbw4.size;omega
     have hF4:=hF3.mid (Mid.of_below hbw4 hnF3)
     have d0_4:=jab hbw4 d0_3
     have d1_4:=jab hbw4 d1_3
     have d2_4:=jab hbw4 d2_3
     have d3_4:=jab hbw4 d3_3
     have d4_4:=jab hbw4 d4_3
     have d5_4:=jab hbw4 d5_3
     clear hEE hbw4 sH3 hO3 hF3 d0_3 d1_3 d2_3 d3_3 d4_3 d5_3 hB3
     by_cases hbe:b<en
     ·rw[if_pos hbe]at hSM
      have HS:=hid hSM
      have hTT:=je5 H a2 ca2 b en w4 sH4 hHl
      clear hSM
      go_wp2_with fail
      refine hTT.mono ?_
      rintro q w5 ⟨vL,L,rfl,hOL,hLs,hLp,hb5⟩
      have HL:Hid (jbi (jbg e H) L T0=jbi (jbg e H) (atsF b (inX H b en)) T0):=jkz (jbg e H) hLs hLp T0
      have hLl:L.length<=2001:=by have h1:=hLp.length_eq;have h2:=jfe H b en;simp only[List.length_cons]at h1;omega
      obtain⟨aL,mL,cL,hvL⟩:=jaq hOL
      subst hvL
      have hL0:0<L.length:=by have h1:=hLp.length_eq;simp only[List.length_cons]at h1;omega
      obtain⟨gL,capL,hLv,_,hLg,hLb,hLc⟩:=hOL.open hL0
      injection hLv with hLv1 hLv2 hLv3
      subst hLv1 hLv2 hLv3
      have HLc:=hid hLc
      have hB5:=qtr hB4 hb5
      have m5:Mid n0 nF w4 w5:=Mid.of_below hb5 hnF4
      have hF5:=hF4.mid m5
      have d0_5:=jab hb5 d0_4
      have d1_5:=jab hb5 d1_4
      have d2_5:=jab hb5 d2_4
      have d3_5:=jab hb5 d3_4
      have d4_5:=jab hb5 d4_4
      have d5_5:=jab hb5 d5_4
      have hO5:=jad hO4 hb5
      have h5s:nF<=w5.heap.size:=Nat.le_trans hnF4 hb5.size
      obtain⟨n1,hn1⟩:∃n,w5.heap.size=n:=⟨_,rfl⟩
      have hLg1:gL<n1:=by rw[<- hn1];exact hLg
      have hLb1:n0<=gL:=Nat.le_trans hN4 hLb
      have hnF1:nF<=n1:=by rw[<- hn1];exact h5s
      have hloc5:∀g,(Value.slice a6 m6 c6).ownBlock=some g->g<n0\/n1<=g:=fun g hg=>.inl (hlo g hg)
      have hn01:n0<n1:=by omega
      have hn1b:n1<=w5.heap.size:=by omega
      have hwn:w.heap.size<=n0:=hsW0
      clear hOL hLs hLp hLc hb5 hLg hLb hn1 h5s
      go_wp2
      go_loopw [6,61] (fun s6 s61 wq=>∃(j:Nat) (p:Option Addr) (m c:Nat),j<=L.length/\s61=.int .i64 j/\s6=.slice p m c/\Zn wq w.heap.size (.slice p m c) (jbi (jbg e H) (L.take j) T0)/\Hid (∀g,(Value.slice p m c).ownBlock=some g->g<n0\/n1<=g)/\Mid n0 n1 w5 wq/\w5.heap.size<=wq.heap.size/\Below w.heap.size w wq) (fun _ s61 _=>L.length-(intOf s61).toNat)
      case atStart=>exact⟨0,a6,m6,c6,by omega,rfl,rfl,hO5,hloc5,Mid.refl _ _ _,Nat.le_refl _,hB5⟩
      case round=>
       obtain⟨wq,hwq⟩:∃x:World,x=wr:=⟨_,rfl⟩
       subst hwq
       obtain⟨j,p,m,c,hj,rfl,rfl,hOq,hlq,hMq,hsq,hBq⟩:=hrel
       by_cases hjl:j<L.length
       ·obtain⟨t,ht⟩:=qgg hjl
        have ct:wq.cell? ⟨gL,j,none⟩=some (.int .i64 t):=hMq.cell hLb1 hLg1 (HLc.out j t ht)
        have HTk:Hid (jbi (jbg e H) (L.take (j+1)) T0=addT (jbi (jbg e H) (L.take j) T0) (jbg e H t)):=by simp only[Hid];rw[List.take_add_one,ht];exact jlk _ _ _ _
        have hTl:(jbi (jbg e H) (L.take j) T0).length<=100000:=by
         have h1:=jf9 (jbg e H) (L.take j) T0
         have h2:(L.take j).length<=L.length:=by rw[List.length_take];omega
         omega
        obtain⟨TT,hTT⟩:∃TT,jbi (jbg e H) (L.take j) T0=TT:=⟨_,rfl⟩
        rw[hTT]at hOq HTk hTl
        have q0_6:=hMq.cell (Nat.le_refl _) hn01 d0_5
        have q1_6:=hMq.cell (Nat.le_refl _) hn01 d1_5
        have q2_6:=hMq.cell (Nat.le_refl _) hn01 d2_5
        have q3_6:=hMq.cell (Nat.le_refl _) hn01 d3_5
        have q4_6:=hMq.cell (Nat.le_refl _) hn01 d4_5
        have q5_6:=hMq.cell (Nat.le_refl _) hn01 d5_5
        have hBD:Below w.heap.size w wq.drew:=hBq.trans ((jaa wq).mono hBq.size)
        have hC:=hF5.tell wq.drew t (fun g h1 h2=>hMq g h1 (by omega))
        have hgo:=hF5.go
        obtain⟨⟨sv1,sv2⟩,slt⟩:=HFb.out t
        have hTO:=fun w1 hM=>ji2 e (jbd e H t) t w1 hM (by have:=hef;omega) (by omega) he3 he4 sv1 sv2
        have HTE:Hid (jbg e H t=jj9 e (jbd e H t) t):=rfl
        have hWT:=fun w1 h1 h2=>jfy TT (jj9 e (jbd e H t) t) (.slice p m c) w.heap.size w1 h1 h2 hTl
        generalize jbd e H t=F at *
        obtain⟨fa,fs,fl⟩:=F
        generalize jj9 e ⟨fa,fs,fl⟩ t=X at *
        obtain⟨xa,xo,xs,xb⟩:=X
        simp only[HapD.v,TurnD.v,EraD.v]at hC hTO hWT
        have hOD:Zn wq.drew w.heap.size (.slice p m c) TT:=hOq
        have hmxD:MxA wq.drew:=MxA.of_below hMxA hBD
        have hjl2:(j:Int)<(L.length:Int):=by omega
        have hen:∀g,(Value.slice p m c).ownBlock=some g->¬g=n0:=fun g hg=>by have:=hlq.out g hg;omega
        have hwb:∀g,(Value.slice p m c).ownBlock=some g->w.heap.size<=g:=fun g hg=>(World.ownsRow.lt hOq g hg).1
        clear ht hTT
        go_wp2_with fail
        go_region_held3 (fun w'=>w'.cell? ⟨n0,0,none⟩=some (.int .i64 e.offset)/\w'.cell? ⟨n0,1,none⟩=some (.string e.rules)/\w'.cell? ⟨n0,2,none⟩=some (.int .i64 e.save)/\w'.cell? ⟨n0,3,none⟩=some (.string e.format)/\w'.cell? ⟨n0,4,none⟩=some (.int .i64 e.until_)/\w'.cell? ⟨n0,5,none⟩=some (.string e.of)) (go_keep) (first|(refine hC.mono ?_;rintro q6 w6 ⟨rfl,hb6⟩;have s0_6:=jab hb6 q0_6;have s1_6:=jab hb6 q1_6;have s2_6:=jab hb6 q2_6;have s3_6:=jab hb6 q3_6;have s4_6:=jab hb6 q4_6;have s5_6:=jab hb6 q5_6;have hO6:Zn w6 w.heap.size (.slice p m c) TT:=jad hOD hb6;have hm6:=MxA.of_below hmxD hb6;have hB6:Below w.heap.size w w6:=qtr hBD hb6)|(go_at_call 257;refine(hTO _ hm6).mono ?_;rintro q7 w7 ⟨rfl,hb7⟩;have s0_7:=jab hb7 s0_6;have s1_7:=jab hb7 s1_6;have s2_7:=jab hb7 s2_6;have s3_7:=jab hb7 s3_6;have s4_7:=jab hb7 s4_6;have s5_7:=jab hb7 s5_6;have hO7:Zn w7 w.heap.size (.slice p m c) TT:=jad hO6 hb7;have hB7:Below w.heap.size w w7:=qtr hB6 hb7)|(go_at_call 256;refine(hWT _ hO7 hB7.size).mono ?_;rintro q8 w8 ⟨v8,rfl,hO8,hFr,hlc⟩;obtain⟨p8,m8,c8,rfl⟩:=jaq hO8;have s0_8:=hFr.cell (fun hg=>hen _ hg rfl) s0_7;have s1_8:=hFr.cell (fun hg=>hen _ hg rfl) s1_7;have s2_8:=hFr.cell (fun hg=>hen _ hg rfl) s2_7;have s3_8:=hFr.cell (fun hg=>hen _ hg rfl) s3_7;have s4_8:=hFr.cell (fun hg=>hen _ hg rfl) s4_7;have s5_8:=hFr.cell (fun hg=>hen _ hg rfl) s5_7))
        all_goals
         have h67:w5.heap.size<=w7.heap.size:=by have h1:=hb6.size;have h2:=hb7.size;have h3:wq.drew.heap.size=wq.heap.size:=rfl;omega
         have M7:Mid n0 n1 w5 w7:=(hMq.trans (Mid.of_below (n0:=n0) (n1:=n1) (jaa wq) (by omega))).trans ((Mid.of_below (n0:=n0) (n1:=n1) hb6 (by have h3:wq.drew.heap.size=wq.heap.size:=rfl;omega)).trans (Mid.of_below (n0:=n0) (n1:=n1) hb7 (by have h1:=hb6.size;have h3:wq.drew.heap.size=wq.heap.size:=rfl;omega)))
         have M8:Mid n0 n1 w5 w8:=M7.trans fun g h1 h2=>hFr.block g (by omega) fun hg=>by have:=hlq.out g hg;omega
         have B8:Below w.heap.size w w8:=hB7.trans (hFr.below (fun g hg=>hwb g hg) hB7.size)
         have HO8:Hid (Zn w8 w.heap.size (.slice p8 m8 c8) (jbi (jbg e H) (L.take (j+1)) T0)):=by rw[HTk.out,HTE.out];exact hO8
         have HL8:Hid (∀g,(Value.slice p8 m8 c8).ownBlock=some g->g<n0\/n1<=g):=fun g hg=>by
          rcases hlc with h|⟨g2,h2,h3⟩
          ·exact hlq.out g (h.symm.trans hg)
          ·rw[h2]at hg;injection hg with hg;omega
         have S8:w5.heap.size<=w8.heap.size:=Nat.le_trans h67 hFr.size
         clear hO8 hFr hlc M7 hb6 hb7 hO6 hO7 hC hTO hWT
         go_wp2
         go_roundw
         case rel=>exact⟨j+1,p8,m8,c8,by omega,by go_num,rfl,HO8.out,HL8,M8,S8,B8⟩
         case measure=>simp[intOf];omega
       ·have hje:j=L.length:=by omega
        have HOe:Hid (Zn wq w.heap.size (.slice p m c) (stK r E (k+1)).1):=by rw[HS.out];simp only;rw[<- HL.out];rw[hje,List.take_length]at hOq;exact hOq
        have hjl2:¬(j:Int)<(L.length:Int):=by omega
        have HBe:Hid ((stK r E (k+1)).2=en):=by simp only[Hid];rw[HS.out]
        clear hje
        go_wp2
        go_roundw
        case rel=>exact⟨k+1,p,m,c,by omega,rfl,by rw[HBe.out],by go_num,HOe.out,HOK,hBq⟩
        case measure=>simp[intOf];omega
     ·rw[if_neg hbe]at hSM
      have HOe:Hid (Zn w4 w.heap.size (.slice a6 m6 c6) (stK r E (k+1)).1):=by rw[hSM];exact hO4
      have HBe:Hid ((stK r E (k+1)).2=en):=by simp only[Hid];rw[hSM]
      clear hSM
      go_wp2
      go_roundw
      case rel=>exact⟨k+1,a6,m6,c6,by omega,rfl,by rw[HBe.out],by go_num,HOe.out,HOK,hB4⟩
      case measure=>simp[intOf];omega
  ·have hke:k=E.length:=by omega
   have HX:Hid (tabE r E=((stK r E k).1,decide ((stK r E k).1.length<=600))):=by simp only[Hid,tabE];rw[hke]at hOk ⊢;rw[hOk.out];rfl
   have hkl:¬(k:Int)<(E.length:Int):=by omega
   obtain⟨⟨T0,b⟩,hst⟩:∃st,stK r E k=st:=⟨_,rfl⟩
   rw[hst]at hT hs7 HX hTl0
   simp only at hT hs7 HX hTl0
   subst hs7
   have hm:m6=T0.length:=by
    obtain⟨a,cap,h,_⟩:=hT.seq
    injection h
   subst hm
   clear hke hst
   by_cases h6:T0.length<=600
   ·have h6i:(T0.length:Int)<=600:=by omega
    rw[decide_eq_true h6]at HX
    go_wp2
    exact bodyPost_ret (v:=.tuple #[.slice a6 T0.length c6,.bool true]) (by simp[results,Tryz.results215,go_sem]) rfl ⟨⟨_,_,T0,rfl,hT,HX.out,hB⟩⟩
   ·have h6i:¬(T0.length:Int)<=600:=by omega
    rw[decide_eq_false h6]at HX
    go_wp2
    exact bodyPost_ret (v:=.tuple #[.slice a6 T0.length c6,.bool false]) (by simp[results,Tryz.results215,go_sem]) rfl ⟨⟨_,_,T0,rfl,hT,HX.out,hB⟩⟩
end
section
open Go.RowKit Go.Sort
def tabD(r:RelD)(nm:ByteArray):Int × List TurnD:=
 if nm.size<=8000 then(if relB r=true then(if (jat r nm).eras=[]then(5,[])else(if (tabE r (jat r nm).eras).2=true then(0,(tabE r (jat r nm).eras).1)else(7,[])))else(1,[]))else(2,[])
theorem j3r{r:RelD}{nm:ByteArray}(h:¬nm.size<=8000):tabD r nm=(2,[]):=if_neg h
theorem j3s{r:RelD}{nm:ByteArray}(h:nm.size<=8000)(h2:relB r=false):tabD r nm=(1,[]):=by unfold tabD;rw[if_pos h,if_neg (by rw[h2];simp)]
theorem j3q{r:RelD}{nm:ByteArray}(h:nm.size<=8000)(h2:relB r=true)(h3:(jat r nm).eras=[]):tabD r nm=(5,[]):=by unfold tabD;rw[if_pos h,if_pos h2,if_pos h3]
theorem j3p{r:RelD}{nm:ByteArray}{T:List TurnD}(h:nm.size<=8000)(h2:relB r=true)(h3:(jat r nm).eras≠[])(h4:tabE r (jat r nm).eras=(T,false)):tabD r nm=(7,[]):=by unfold tabD;rw[if_pos h,if_pos h2,if_neg h3,h4];rfl
theorem j3t{r:RelD}{nm:ByteArray}{T:List TurnD}(h:nm.size<=8000)(h2:relB r=true)(h3:(jat r nm).eras≠[])(h4:tabE r (jat r nm).eras=(T,true)):tabD r nm=(0,T):=by unfold tabD;rw[if_pos h,if_pos h2,if_neg h3,h4];rfl
theorem era_r{e:EraD}(h:eraP e=true):EraR e:=by
 unfold eraP at h
 simp only[Bool.and_eq_true,decide_eq_true_eq]at h
 obtain⟨h1,h2,h3,h4,h5,h6,_⟩:=h
 have hf:=of_decide_eq_true h4
 unfold erB at h3
 refine⟨⟨h1,h2⟩,⟨h5,h6⟩,hf.2.1,fun h0=>?_,?_⟩
 ·have hE:e.rules.toList.isEmpty=true:=by
   rw[jee,List.isEmpty_iff, <- List.length_eq_zero_iff,jc2]
   exact h0
  rw[if_pos hE]at h3
  exact jbw h3
 ·split at h3
  ·rename_i hE
   rw[jee,List.isEmpty_iff, <- List.length_eq_zero_iff,jc2]at hE
   omega
  ·simp only[Bool.and_eq_true]at h3
   exact(jl1 h3.1).2.1
theorem jie{r:RelD}{nm:ByteArray}(h:relB r=true)(hne:(jat r nm).eras≠[]):jb5 (jat r nm)=true/\∃i,jeb r.zones (jc4 r.links nm)=some i/\r.zones[i]? =some (jat r nm):=by
 have hz:∀z∈r.zones,jb5 z=true:=by
  have h':=h
  unfold relB at h'
  simp only[Bool.and_eq_true,List.all_eq_true]at h'
  exact h'.2.2.1
 unfold jat at hne ⊢
 rw[if_pos h]at hne ⊢
 split at hne
 ·rename_i i hi
  split at hne
  ·rename_i z hz2
   simp only[hi]
   exact⟨hz z (List.mem_of_getElem? hz2),i,rfl,hz2⟩
  ·exact absurd rfl hne
 ·exact absurd rfl hne
theorem jmw{z:ZoneD}(h:jb5 z=true):(1<=z.eras.length/\z.eras.length<=8)/\∀e∈z.eras,EraR e:=by
 unfold jb5 at h
 simp only[Bool.and_eq_true,List.all_eq_true]at h
 exact⟨of_decide_eq_true h.2.1,fun e he=>era_r (h.2.2.1 e he)⟩
theorem ja5{w:World}{b:Nat}{x0 x1 v0 v1:Value}(h0:w.cell? ⟨b,0,none⟩=some x0)(h1:w.cell? ⟨b,1,none⟩=some x1):
  ((w.setCell ⟨b,0,none⟩ v0).setCell ⟨b,1,none⟩ v1).cell? ⟨b,0,none⟩=some v0/\((w.setCell ⟨b,0,none⟩ v0).setCell ⟨b,1,none⟩ v1).cell? ⟨b,1,none⟩=some v1:=by
 refine⟨?_,?_⟩
 ·rw[World.cell?_setCell_other _ _ _ _ (by simp),World.cell?_setCell_same _ _ _ h0]
 ·refine World.cell?_setCell_same _ _ _ (u:=x1) ?_
  rw[World.cell?_setCell_other _ _ _ _ (by simp)];exact h1
structure TabP(r:RelD)(nm:ByteArray)(w:World)(q:Ending)(W':World):Prop where
 ex:∃v,q=.returned (.agg #[v,.int .i64 (tabD r nm).1])/\Zn W' w.heap.size v (tabD r nm).2/\Below w.heap.size w W'
theorem jfm{r:RelD}{nm:ByteArray}{w w1:World}{c:Int}{b:Nat}(h:tabD r nm=(c,[]))(hB:Below w.heap.size w w1)(hb:w.heap.size<=b):TabP r nm w (.returned (.agg #[.slice none 0 0,.int .i64 c])) ((w1.setCell ⟨b,0,none⟩ (.slice none 0 0)).setCell ⟨b,1,none⟩ (.int .i64 c)):=by
 refine⟨.slice none 0 0,by rw[h],by rw[h];exact World.ownsRow_nil _ _ _ _,(hB.setCell hb _).setCell hb _⟩
theorem j0i{x:RuleD}(h:jbm x=true):jbs x.name=true:=by
 unfold jbm at h
 simp only[Bool.and_eq_true]at h
 exact h.1
theorem jon(r:RelD)(v:Value)(nm:ByteArray)(w:World)(hEnv:Zm w)(hv:Zi w v r)(ok:r.ok)(sm:r.small)(hon:∀x∈r.rules,x.on.size<=1048576)(hm:nm.size<=maxLen):
  Calls Tryz.prog 171 #[v,.string nm] w fun q W'=>TabP r nm w q W':=by
 unfold maxLen at hm
 obtain⟨a,b,c,ca,cb,cc,rfl,hA,hAb,hAc⟩:=hv.form
 have hv:Zi w (.agg #[.slice a r.rules.length ca,.slice b r.zones.length cb,.slice c r.links.length cc]) r:=⟨⟨a,b,c,ca,cb,cc,rfl,hA,hAb,hAc⟩⟩
 clear hAb hAc
 have hB0:=(qal w (.cells #[.slice a r.rules.length ca,.slice b r.zones.length cb,.slice c r.links.length cc] 56)).alloc (by simp) (.cells #[.slice none 0 0,.int .i64 0] 216)
 obtain⟨x0_0,x1_0,x2_0,r0_0,r1_0,f0_0,f1_0⟩:(fun z:World=>z.cell? ⟨w.heap.size,0,none⟩=some (.slice a r.rules.length ca)/\z.cell? ⟨w.heap.size,1,none⟩=some (.slice b r.zones.length cb)/\z.cell? ⟨w.heap.size,2,none⟩=some (.slice c r.links.length cc)/\z.cell? ⟨w.heap.size+1,0,none⟩=some (.slice none 0 0)/\z.cell? ⟨w.heap.size+1,1,none⟩=some (.int .i64 0)/\z.frozen? ⟨w.heap.size+1,0,none⟩=false/\z.frozen? ⟨w.heap.size+1,1,none⟩=false) ((w.alloc (.cells #[.slice a r.rules.length ca,.slice b r.zones.length cb,.slice c r.links.length cc] 56)).alloc (.cells #[.slice none 0 0,.int .i64 0] 216)):=by simp[go_sem]
 by_cases h1:nm.size<=8000
 case neg=>
  have g1:(8000:Int)<(nm.size:Int):=by omega
  have HT:Hid (tabD r nm=(2,[])):=j3r h1
  have HP:Hid (TabP r nm w (.returned (.agg #[.slice none 0 0,.int .i64 2])) ((w.alloc (.cells #[.slice a r.rules.length ca,.slice b r.zones.length cb,.slice c r.links.length cc] 56)).alloc (.cells #[.slice none 0 0,.int .i64 2] 216))):=⟨.slice none 0 0,by rw[HT.out],by rw[HT.out];exact World.ownsRow_nil _ _ _ _,(qal w _).alloc (by simp) _⟩
  clear h1 HT
  go_enter Tryz.func171,Tryz.ntmps171
  go_wp2
  exact bodyPost_ret (v:=.agg #[.slice none 0 0,.int .i64 2]) (by simp[results,Tryz.results171,go_sem]) rfl HP.out
 have g1:¬(8000:Int)<(nm.size:Int):=by omega
 have hR:=fun w hE (h:Zi w (.agg #[.slice a r.rules.length ca,.slice b r.zones.length cb,.slice c r.links.length cc]) r)=>ja8 r _ w hE h ok sm hon
 cases h2:relB r
 case false=>
  have HT:Hid (tabD r nm=(1,[])):=j3s h1 h2
  rw[h2]at hR
  clear h2 h1
  go_enter Tryz.func171,Tryz.ntmps171
  go_wp2_with fail
  refine(hR _ (hEnv.of_below hB0) (hv.below hB0)).mono ?_
  rintro q w1 ⟨rfl,hb1⟩
  have hB1:=qtr hB0 hb1
  have x0_1:=jab hb1 x0_0
  have x1_1:=jab hb1 x1_0
  have x2_1:=jab hb1 x2_0
  have r0_1:=jab hb1 r0_0
  have r1_1:=jab hb1 r1_0
  have f0_1:=qfz hb1 r0_0 f0_0
  have f1_1:=qfz hb1 r1_0 f1_0
  clear hb1 x0_0 x1_0 x2_0 r0_0 r1_0 f0_0 f1_0
  obtain⟨t0,t1⟩:=ja5 (v0:=.slice none 0 0) (v1:=.int .i64 1) r0_1 r1_1
  have HP:Hid (TabP r nm w (.returned (.agg #[.slice none 0 0,.int .i64 1])) ((w1.setCell ⟨w.heap.size+1,0,none⟩ (.slice none 0 0)).setCell ⟨w.heap.size+1,1,none⟩ (.int .i64 1))):=jfm HT.out hB1 (by omega)
  go_wp2
  exact bodyPost_ret (v:=.agg #[.slice none 0 0,.int .i64 1]) (by simp[results,Tryz.results171,go_sem,t0,t1]) rfl HP.out
 have HRB:=hid h2
 have hl:=jnc h2
 have hl1:=hl.1
 have HL:Hid (∀x∈r.rules,jbm x=true):=hl.2
 have hZ:=fun w hE (h:Zi w (.agg #[.slice a r.rules.length ca,.slice b r.zones.length cb,.slice c r.links.length cc]) r)=>jfg r _ nm w hE h ok sm hon
 have hN:=fun w (h:Zd w a 9 (r.rules.map RuleD.cs))=>jhp r.rules a ca w h hl1 (fun x hx=>by have:=(jl1 (j0i (HL.out x hx))).2.1;unfold maxLen;omega)
 have hD5:=fun h=>j3q (nm:=nm) h1 h2 h
 have hD7:=fun T h h'=>j3p (nm:=nm) (T:=T) h1 h2 h h'
 have hD0:=fun T h h'=>j3t (nm:=nm) (T:=T) h1 h2 h h'
 have hRZ:=fun h=>jie (nm:=nm) h2 h
 rw[h2]at hR
 obtain⟨⟨zn,E⟩,hzd⟩:∃z,jat r nm=z:=⟨_,rfl⟩
 rw[hzd]at hZ hD5 hD7 hD0 hRZ
 simp only at hZ hD5 hD7 hD0 hRZ
 clear h2 hl hzd
 go_enter Tryz.func171,Tryz.ntmps171
 go_wp2_with fail
 refine(hR _ (hEnv.of_below hB0) (hv.below hB0)).mono ?_
 rintro q w1 ⟨rfl,hb1⟩
 have hB1:=qtr hB0 hb1
 have x0_1:=jab hb1 x0_0
 have x1_1:=jab hb1 x1_0
 have x2_1:=jab hb1 x2_0
 have r0_1:=jab hb1 r0_0
 have r1_1:=jab hb1 r1_0
 have f0_1:=qfz hb1 r0_0 f0_0
 have f1_1:=qfz hb1 r1_0 f1_0
 clear hb1 hR x0_0 x1_0 x2_0 r0_0 r1_0 f0_0 f1_0
 go_wp2_with fail
 refine(hZ _ (hEnv.of_below hB1) (hv.below hB1)).mono ?_
 rintro q w2 ⟨vz,rfl,hOz,hb2⟩
 have hB2:=qtr hB1 hb2
 have x0_2:=jab hb2 x0_1
 have x1_2:=jab hb2 x1_1
 have x2_2:=jab hb2 x2_1
 have r0_2:=jab hb2 r0_1
 have r1_2:=jab hb2 r1_1
 have f0_2:=qfz hb2 r0_1 f0_1
 have f1_2:=qfz hb2 r1_1 f1_1
 clear hb2 hZ x0_1 x1_1 x2_1 r0_1 r1_1 f0_1 f1_1
 rcases hOz with⟨hEn,rfl⟩|⟨g,cap,rfl,hgB,hgl,hSE,_⟩
 ·have HT:Hid (tabD r nm=(5,[])):=hD5 hEn
  have hfd:∀w,(Instr.field 136 (.agg #[.string zn,.slice none 0 0]) 1).run Tryz.prog w=.ok (.slice none 0 0) w:=fun _=>by kernel_rfl
  clear hD5 hD7 hD0 hRZ hN
  obtain⟨t0,t1⟩:=ja5 (v0:=.slice none 0 0) (v1:=.int .i64 5) r0_2 r1_2
  have HP:Hid (TabP r nm w (.returned (.agg #[.slice none 0 0,.int .i64 5])) ((w2.setCell ⟨w.heap.size+1,0,none⟩ (.slice none 0 0)).setCell ⟨w.heap.size+1,1,none⟩ (.int .i64 5))):=jfm HT.out hB2 (by omega)
  go_wp2
  exact bodyPost_ret (v:=.agg #[.slice none 0 0,.int .i64 5]) (by simp[results,Tryz.results171,go_sem,t0,t1]) rfl HP.out
 ·have hfd:∀w,(Instr.field 136 (.agg #[.string zn,.slice (some ⟨g,0,none⟩) E.length cap]) 1).run Tryz.prog w=.ok (.slice (some ⟨g,0,none⟩) E.length cap) w:=fun _=>by kernel_rfl
  by_cases hE0:E=[]
  ·subst hE0
   simp only[List.length_nil]at hfd
   have HT:Hid (tabD r nm=(5,[])):=hD5 rfl
   clear hD5 hD7 hD0 hRZ hN
   obtain⟨t0,t1⟩:=ja5 (v0:=.slice none 0 0) (v1:=.int .i64 5) r0_2 r1_2
   have HP:Hid (TabP r nm w (.returned (.agg #[.slice none 0 0,.int .i64 5])) ((w2.setCell ⟨w.heap.size+1,0,none⟩ (.slice none 0 0)).setCell ⟨w.heap.size+1,1,none⟩ (.int .i64 5))):=jfm HT.out hB2 (by omega)
   go_wp2
   exact bodyPost_ret (v:=.agg #[.slice none 0 0,.int .i64 5]) (by simp[results,Tryz.results171,go_sem,t0,t1]) rfl HP.out
  ·obtain⟨hEl,hEr⟩:=jmw (hRZ hE0).1
   simp only at hEl hEr
   have hne:¬E.length=0:=by omega
   have hnei:¬(E.length:Int)=0:=by omega
   go_wp2_with fail
   refine(hN _ (hA.below hB2)).mono ?_
   rintro q w3 ⟨rfl,hM3,hb3⟩
   have hB3:=qtr hB2 hb3
   have x0_3:=jab hb3 x0_2
   have x1_3:=jab hb3 x1_2
   have x2_3:=jab hb3 x2_2
   have r0_3:=jab hb3 r0_2
   have r1_3:=jab hb3 r1_2
   have f0_3:=qfz hb3 r0_2 f0_2
   have f1_3:=qfz hb3 r1_2 f1_2
   have hTs:=jny r E (some ⟨g,0,none⟩) cap w2.heap.size (w2.heap.size+1) w3 (hSE.below hb3) hM3 (hEnv.of_below hB3) HL.out hl1 hEr hEl.2
   clear hb3 hN x0_2 x1_2 x2_2 r0_2 r1_2 f0_2 f1_2
   go_wp2_with fail
   refine hTs.mono ?_
   rintro q w4 ⟨v4,bb,T,rfl,hO4,hT4,hb4⟩
   have hB4:=qtr hB3 hb4
   have x0_4:=jab hb4 x0_3
   have x1_4:=jab hb4 x1_3
   have x2_4:=jab hb4 x2_3
   have r0_4:=jab hb4 r0_3
   have r1_4:=jab hb4 r1_3
   have f0_4:=qfz hb4 r0_3 f0_3
   have f1_4:=qfz hb4 r1_3 f1_3
   obtain⟨a7,m7,d7,rfl⟩:=jaq hO4
   cases bb with
   |false=>
    have HT:Hid (tabD r nm=(7,[])):=hD7 T hE0 hT4
    clear hb4 hTs hT4 hD5 hD7 hD0 hRZ hO4 x0_3 x1_3 x2_3 r0_3 r1_3 f0_3 f1_3
    obtain⟨t0,t1⟩:=ja5 (v0:=.slice none 0 0) (v1:=.int .i64 7) r0_4 r1_4
    have HP:Hid (TabP r nm w (.returned (.agg #[.slice none 0 0,.int .i64 7])) ((w4.setCell ⟨w.heap.size+1,0,none⟩ (.slice none 0 0)).setCell ⟨w.heap.size+1,1,none⟩ (.int .i64 7))):=jfm HT.out hB4 (by omega)
    go_wp2
    exact bodyPost_ret (v:=.agg #[.slice none 0 0,.int .i64 7]) (by simp[results,Tryz.results171,go_sem,t0,t1]) rfl HP.out
   |true=>
    have HT:Hid (tabD r nm=(0,T)):=hD0 T hE0 hT4
    have hloc:∀g,(Value.slice a7 m7 d7).ownBlock=some g->w3.heap.size<=g:=fun g hg=>(World.ownsRow.lt hO4 g hg).1
    have hw3:w.heap.size+1<w3.heap.size:=qbl r0_3
    have HP:Hid (TabP r nm w (.returned (.agg #[.slice a7 m7 d7,.int .i64 0])) ((w4.setCell ⟨w.heap.size+1,0,none⟩ (.slice a7 m7 d7)).setCell ⟨w.heap.size+1,1,none⟩ (.int .i64 0))):=⟨.slice a7 m7 d7,by rw[HT.out],by
     rw[HT.out]
     have h1:=jb8 hO4 hB3.size
     exact World.ownsRow.kept (World.ownsRow.kept h1 (jbt w4 _ 0 _) (by cases hv:(Value.slice a7 m7 d7).ownBlock with
      |none=>exact .inl rfl
      |some g=>exact .inr fun e=>by have:=hloc g hv;injection e with e;omega)) (jbt _ _ 1 _) (by cases hv:(Value.slice a7 m7 d7).ownBlock with
      |none=>exact .inl rfl
      |some g=>exact .inr fun e=>by have:=hloc g hv;injection e with e;omega),(hB4.setCell (show w.heap.size<=w.heap.size+1 by omega) _).setCell (show w.heap.size<=w.heap.size+1 by omega) _⟩
    obtain⟨t0,t1⟩:=ja5 (v0:=.slice a7 m7 d7) (v1:=.int .i64 0) r0_4 r1_4
    clear hb4 hTs hT4 hD5 hD7 hD0 hRZ hO4 x0_3 x1_3 x2_3 r0_3 r1_3 f0_3 f1_3
    go_wp2
    exact bodyPost_ret (v:=.agg #[.slice a7 m7 d7,.int .i64 0]) (by simp[results,Tryz.results171,go_sem,t0,t1]) rfl HP.out
end
end Go.Proofs.YtofdpfpdocpbpaaGreatDoor
