import Derived.Test.YtlmgdfoiejpbcaaGreatDoorSHd
import Derived.Test.YtlmgdfoiejpbcaaGreatDoorSId
set_option maxHeartbeats 0
set_option linter.unusedSimpArgs false
namespace Go.Proofs.YtlmgdfoiejpbcaaGreatDoor
section
open Go.RowKit Go.ChangeMaps Go.MapKept Go.WideMaps
def jov(s:StoreD):Bool:=jk5 s&&(txB s.vs s.tx&&(jdq s.vs s.vs.length&&jnr s (jan s.vs)))
def storeI(s:StoreD):Bool:=jov s&&eqX s.ix (entF (momB s) (jan s.vs))
theorem jy6{w:World}{base:Nat}{v:Value}{L:List EntryD}(h:Zb w base v L):w.ownsRow base 95 2 v (L.map EntryD.cs).length (L.map EntryD.cs).flatten:=by rw[llm];exact h
theorem jyh{l:List VersionD}{t:Int}(h:txB l t=true):∀v∈l,jbm v.ev=true:=fun v hv=>by
 obtain⟨k,hk⟩:=lgo hv
 unfold txB at h
 rw[bat]at h
 cases hx:txI l t k v
 ·have:=juu hk hx (n:=l.length) (List.getElem?_eq_some_iff.1 hk).1
  rw[h.2]at this
  cases this
 ·unfold txI at hx
  simp only[bat]at hx
  exact hx.2.2
theorem jq1{e:EventD}(h:jbm e=true):(1<=e.id/\e.id<=1000000)/\jaz e.zone=true/\isB e.wall (-62135596800) 253402300799=true/\isB e.gap 0 2=true/\isB e.fold 0 2=true:=by
 unfold jbm at h
 simp only[bat]at h
 exact⟨jax h.1,h.2.2⟩
theorem j23{l:List VersionD}{t:Int}(h:txB l t=true):∀v∈l,1<=v.id/\v.id<=1000000:=fun v hv=>(jq1 (jyh h v hv)).1
end
section
open Go.RowKit Go.ChangeMaps Go.MapKept Go.WideMaps
structure BookO(s:StoreD)(w w':World)(bb lb:Nat)(a8:Option Addr)(c8:Nat):Prop where
 ex:∃nm wm k w0 a b c d e f ca cb cc cd ce cf,Zl [(0,iv s.tx),(8,.slice a8 s.vs.length c8)] w0 w' s bb lb nm wm k k a b c d e f ca cb cc cd ce cf/\k<=30/\Bw w w0/\Zx w0/\Zd w0 (.agg #[.slice a s.now.rules.length ca,.slice b s.now.zones.length cb,.slice c s.now.links.length cc]) s.now/\Zd w0 (.agg #[.slice d s.was.rules.length cd,.slice e s.was.zones.length ce,.slice f s.was.links.length cf]) s.was/\nm≠lb/\wm≠lb/\relB s.now=true/\relB s.was=true
structure OpenP(s:StoreD)(w:World)(q:Ending)(w':World):Prop where
 ex:∃x,q=.returned (.tuple #[.pointer x,.bool (storeI s)])/\(storeI s=true->∃bb lb n a8 c8,x=some (ad bb 0)/\w'.cell? (ad bb 10)=some (.map (some lb))/\Zm w' lb n (jch s.vs)/\w'.cell? (ad bb 0)=some (iv s.tx)/\w'.cell? (ad bb 8)=some (.slice a8 s.vs.length c8)/\Za w' a8 8 (s.vs.map VersionD.cs)/\s.vs.length<=c8/\BookO s w w' bb lb a8 c8)
 bel:Bw w w'
set_option maxRecDepth 20000 in
theorem ji8(hS:SortC)(s:StoreD)(v:Value)(w:World)(hE:Zx w)(hv:Jd w v s)(ok:Zr s):
  Cl 21 #[v] w (OpenP s w):=by
 have dQ:=hv
 obtain⟨a,b,c,d,e,f,va,ia,ca,cb,cc,cd,ce,cf,cv,ci,rfl,hN,hW,hV,hX,_,_⟩:=hv.form
 have ag:=qal w (.cells (stA s a b c d e f va ia ca cb cc cd ce cf cv ci).toArray 42)
 have A0:=Zh.new w (stA s a b c d e f va ia ca cb cc cd ce cf cv ci) 42
 have q1:=fun w hE h=>jjc s (.agg (stA s a b c d e f va ia ca cb cc cd ce cf cv ci).toArray) w hE h ok
 have q2:=fun w h=>jfv s.vs s.tx s.cur a b c d e f va ia s.now.rules.length ca s.now.zones.length cb s.now.links.length cc s.was.rules.length cd s.was.zones.length ce s.was.links.length cf s.vs.length cv s.ix.length ci w h ok.vs rfl ok.vl
 skip
 have HV:=hid hV
 have HX:=hid hX
 have HN:=hid hN
 have HW:=hid hW
 clear hV hX hN hW hv
 obtain⟨x0,x1,x2,x3,x4,x5,x6,x7,x8,x9⟩:=A0.ten
 unfold Cl;go_in
 go_wp2_with fail
 refine(q1 _ (hE.of_below ag) (dQ.below ag)).mono ?_
 rintro e1 w1 ⟨rfl,hb1⟩
 have aj:=qtr ag hb1
 have A1:=A0.below hb1
 clear hb1 A0 q1 x0 x1 x2 x3 x4 x5 x6 x7 x8 x9
 cases h1:jk5 s
 case false=>
  have HR:Hid (storeI s=false):=by simp[Hid,storeI,jov,h1]
  go_wp2
  go_ret2
  exact⟨⟨none,by rw[HR.out];rfl,fun h=>by rw[HR.out]at h;cases h⟩,aj⟩
 have hr:relB s.now=true/\relB s.was=true:=by
  unfold jk5 at h1
  simp only[bat]at h1
  exact h1.2
 obtain⟨oG,dC⟩:=hr
 obtain⟨x0,x1,x2,x3,x4,x5,x6,x7,x8,x9⟩:=A1.ten
 go_wp2_with fail
 refine(q2 _ (HV.out.below aj)).mono ?_
 rintro e2 w2 ⟨rfl,ac⟩
 have an:=qtr aj ac
 have A2:=A1.below ac
 clear ac A1 q2 x0 x1 x2 x3 x4 x5 x6 x7 x8 x9
 cases h2:txB s.vs s.tx
 case false=>
  have HR:Hid (storeI s=false):=by simp[Hid,storeI,jov,h1,h2]
  go_wp2
  go_ret2
  exact⟨⟨none,by rw[HR.out];rfl,fun h=>by rw[HR.out]at h;cases h⟩,an⟩
 have q3:=jqn s.vs va s.vs.length cv w2 (HV.out.below an) (j23 h2) rfl ok.vl
 have x8:=A2.c 8 rfl
 go_wp2_with fail
 refine q3.mono ?_
 rintro e3 w3 jC
 have ar:=jC.bel
 have ax:=qtr an ar
 have A3:=A2.below ar
 clear ar A2 q3 x8
 rcases jC.end_ with⟨h3,iI,gT⟩|⟨h3,iI⟩
 case inr=>
  subst iI
  clear jC
  have HR:Hid (storeI s=false):=by simp[Hid,storeI,jov,h1,h2,h3]
  go_wp2
  go_ret2
  exact⟨⟨none,by rw[HR.out];rfl,fun h=>by rw[HR.out]at h;cases h⟩,ax⟩
 subst iI
 have Kh:=an.size
 clear jC an aj ag
 have q4:=jkd s _ (jch s.vs) (jan s.vs) w2.heap.size s.vs.length w3 (hE.of_below ax) (dQ.below ax) ok gT (jga s.vs) (jhr s.vs.length) ok.vl oG dC
 obtain⟨x0,x1,x2,x3,x4,x5,x6,x7,x8,x9⟩:=A3.ten
 go_wp2_with fail
 refine q4.mono ?_
 rintro e4 w4 ⟨rfl,aD⟩
 have lx:=gT.below aD
 have aR:=qtr ax aD
 have A4:=A3.below aD
 clear aD A3 q4 gT x0 x1 x2 x3 x4 x5 x6 x7 x8 x9
 cases h4:jnr s (jan s.vs)
 case false=>
  have HR:Hid (storeI s=false):=by simp[Hid,storeI,jov,h1,h2,h3,h4]
  go_wp2
  go_ret2
  exact⟨⟨none,by rw[HR.out];rfl,fun h=>by rw[HR.out]at h;cases h⟩,aR⟩
 have HR:Hid (storeI s=eqX s.ix (entF (momB s) (jan s.vs))):=by simp only[Hid,storeI,jov,h1,h2,h3,h4,Bool.true_and]
 have ve:(jan s.vs).length<=30:=by
  unfold jnr at h4
  rw[bat]at h4
  exact odt h4.1
 clear h1 h2 h3 h4
 generalize vf:w2.heap.size=lb at *
 clear vf
 have wZ:=jab w4
 have bG:Bw w w4.drew:=qtr aR wZ
 have sg:=lx.below wZ
 have A5:=A4.below wZ
 obtain⟨z0,z1,z2,z3,z4,z5,z6,z7,z8,z9⟩:=A5.ten
 have xV:=jqs s _ w4.drew (dQ.below bG) ok
 have iH:=fun(r:RelD) a b c ca cb cc W=>jmf r a b c ca cb cc W
 have Ek:=hid sg
 have lM:=hid bG
 have yy:=hid A5
 clear lx sg aR bG A4 A5 wZ ax
 go_wp2_with fail
 go_region_held3 (fun w'=>w'.cell? (ad w.heap.size 0)=some (iv s.tx)/\w'.cell? (ad w.heap.size 1)=some (.slice a s.now.rules.length ca)/\w'.cell? (ad w.heap.size 2)=some (.slice b s.now.zones.length cb)/\w'.cell? (ad w.heap.size 3)=some (.slice c s.now.links.length cc)/\w'.cell? (ad w.heap.size 4)=some (.slice d s.was.rules.length cd)/\w'.cell? (ad w.heap.size 5)=some (.slice e s.was.zones.length ce)/\w'.cell? (ad w.heap.size 6)=some (.slice f s.was.links.length cf)/\w'.cell? (ad w.heap.size 7)=some (iv s.cur)/\w'.cell? (ad w.heap.size 8)=some (.slice va s.vs.length cv)/\w'.cell? (ad w.heap.size 9)=some (.slice ia s.ix.length ci)) (go_keep) (first|(go_at_call 56;refine xV.mono ?_;rintro q w5 lz;obtain⟨a1,n1,c1,a2,n2,c2,a3,n3,c3,a4,n4,c4,a5,n5,c5,a6,n6,c6,a8,n8,c8,a9,n9,c9,Ky,rfl,RU⟩:=lz.ex;subst Ky;have RL:Hid (Za w5 a8 8 (s.vs.map VersionD.cs)/\s.vs.length<=c8):=RU;clear RU;have aV:=lz.bel;clear lz;obtain⟨Mu,Mv,Mw,My,Mz,MA,MB,MC,MD,ME⟩:=(yy.out.below aV).ten)|(go_at_call 57;have Gp:=hb6;refine(iH s.was d e f cd ce cf _).mono ?_;rintro q w7 ff;have yg:=ff.ex;subst yg;have BS:=ff.cache;have ay:=ff.bel;clear ff;obtain⟨Mh,Mi,Mj,Mk,Mm,Mn,Mo,Mp,Mq,GU⟩:=(((yy.out.below aV).below hb6).below ay).ten)|(go_at_call 57;refine(iH s.now a b c ca cb cc _).mono ?_;rintro q w6 jD;have Kz:=jD.ex;subst Kz;have mu:=jD.cache;have hb6:=jD.bel;clear jD;obtain⟨De,Di,Dk,Dm,Do,Dq,Ds,Dt,Du,Dv⟩:=((yy.out.below aV).below hb6).ten))
 all_goals
  have bG:=qtr lM.out aV
  have EI:=(brf w5.heap.size w5).trans (hb6.mono (nlr _))
  have EJ:=qtr EI ay
  have b8:=qal w7 (.cells #[iv s.tx,.slice a1 n1 c1,.slice a2 n2 c2,.slice a3 n3 c3,.slice a4 n4 c4,.slice a5 n5 c5,.slice a6 n6 c6,iv s.cur,.slice a8 s.vs.length c8,.slice a9 n9 c9,.map (some lb),.slice a s.now.rules.length ca,.slice b s.now.zones.length cb,.slice c s.now.links.length cc,.map (some (w5.heap.size+1+1)),.slice d s.was.rules.length cd,.slice e s.was.zones.length ce,.slice f s.was.links.length cf,.map (some (w6.heap.size+1+1))] 69)
  have EK:=qtr EJ b8
  have l5:=aV.size
  have l6:=hb6.size
  have l7:=ay.size
  have ln:=mu.lt
  have lw:=BS.lt
  have ll:=Ek.out.lt
  have K8:=Zh.new w7 [iv s.tx,.slice a1 n1 c1,.slice a2 n2 c2,.slice a3 n3 c3,.slice a4 n4 c4,.slice a5 n5 c5,.slice a6 n6 c6,iv s.cur,.slice a8 s.vs.length c8,.slice a9 n9 c9,.map (some lb),.slice a s.now.rules.length ca,.slice b s.now.zones.length cb,.slice c s.now.links.length cc,.map (some (w5.heap.size+1+1)),.slice d s.was.rules.length cd,.slice e s.was.zones.length ce,.slice f s.was.links.length cf,.map (some (w6.heap.size+1+1))] 69
  have F5:Zl [(0,iv s.tx),(8,.slice a8 s.vs.length c8)] w5 _ s w7.heap.size lb (w5.heap.size+1+1) (w6.heap.size+1+1) 0 0 a b c d e f ca cb cc cd ce cf:=⟨EK,K8.c 7 rfl,K8.c 10 rfl,K8.c 11 rfl,K8.c 12 rfl,K8.c 13 rfl,K8.c 14 rfl,K8.c 15 rfl,K8.c 16 rfl,K8.c 17 rfl,K8.c 18 rfl,(mu.below ay).below b8,BS.below b8,by omega,by omega,by omega,fun p hp=>by simp at hp;rcases hp with rfl|rfl;exact K8.c 0 rfl;exact K8.c 8 rfl,_,heap_alloc_new w7 _⟩
  have sh:=(((Ek.out.below aV).below hb6).below ay).below b8
  have B6:=hE.of_below bG
  have si:=HN.out.below bG
  have uL:=HW.out.below bG
  have jy:=jhk hS w5 s w7.heap.size lb (w5.heap.size+1+1) (w6.heap.size+1+1) s.vs.length a b c d e f ca cb cc cd ce cf (jch s.vs) (jan s.vs) _ B6 si uL ok.now ok.was oG dC (F5.below (jab _)) (by omega) (by omega) (sh.below (jab _)) (jga s.vs) (jhr s.vs.length) (by omega)
  have nC:Hid (Zx w5/\Zd w5 (.agg #[.slice a s.now.rules.length ca,.slice b s.now.zones.length cb,.slice c s.now.links.length cc]) s.now/\Zd w5 (.agg #[.slice d s.was.rules.length cd,.slice e s.was.zones.length ce,.slice f s.was.links.length cf]) s.was/\w5.heap.size+1+1≠lb/\w6.heap.size+1+1≠lb/\relB s.now=true/\relB s.was=true/\(jan s.vs).length<=30):=⟨B6,si,uL,by omega,by omega,oG,dC,ve⟩
  have x9:=jaa (jab _) (jaa b8 GU)
  have If:Hid (Za w5 ia 2 (s.ix.map EntryD.cs)):=HX.out.below bG
  have Ea:=hid bG
  have iD:(entF (momB s) (jan s.vs)).length<=30:=Nat.le_trans (jep _ _) ve
  have de:=ok.xl
  obtain⟨X,lC⟩:=qeb (entF (momB s) (jan s.vs))
  rw[lC]at jy iD
  have lh:Hid (storeI s=eqX s.ix X):=by simp only[Hid];rw[<- lC];exact HR.out
  obtain⟨tb,jj⟩:=qeb (eqX s.ix X)
  have I0:Hid (storeI s=tb):=by simp only[Hid];rw[lh.out];exact jj
  have Fw:=fun px cx W (h:Za W ia 2 (s.ix.map EntryD.cs)) (h2:Za W px 2 (X.map EntryD.cs))=>jhc s.ix X ia px s.ix.length X.length ci cx W h h2 rfl rfl de (by omega)
  rw[jj]at Fw
  clear HR lh lC jj bG EI EJ b8 EK K8 F5 sh B6 si uL mu BS aV hb6 ay iH xV Mu De Mh z0 Mv Di Mi z1 Mw Dk Mj z2 My Dm Mk z3 Mz Do Mm z4 MA Dq Mn z5 MB Ds Mo z6 MC Dt Mp z7 MD Du Mq z8 Dv GU z9
  go_wp2_with fail
  go_region_held3 (fun w'=>w'.cell? (ad w.heap.size 9)=some (.slice ia s.ix.length ci)) (go_keep) (first|(go_at_call 59;refine jy.mono ?_;rintro q w9 pY;obtain⟨v9,rfl,eB⟩:=pY.ex;obtain⟨kk,sE,ul⟩:=pY.inv;have bZ:=ul.bel;have G4:=ul.live;have Qr:Hid (∀p∈[((0:Nat),iv s.tx),(8,.slice a8 s.vs.length c8)],w9.cell? (ad w7.heap.size p.1)=some p.2):=ul.more;have Ei:Hid (kk<=(jan s.vs).length/\Zl [(0,iv s.tx),(8,.slice a8 s.vs.length c8)] w5 w9 s w7.heap.size lb (w5.heap.size+1+1) (w6.heap.size+1+1) kk kk a b c d e f ca cb cc cd ce cf):=⟨sE,ul⟩;clear sE;have JC:=pY.live;clear ul pY;have eB:=jy6 eB;obtain⟨px,cx,Gm,vE,_⟩:=jbe eB jak;rw[llm]at Gm;subst Gm;clear eB;have MR:=jaa bZ ME;have BF:=Fw px cx w9 (If.out.below bZ) vE;clear vE)|(go_at_call 58;refine BF.mono ?_;rintro q MF ⟨rfl,g9⟩;have Qc:=jaa g9 MR;have Cf:=jaa g9 G4;have Bo:=JC.below g9))
  all_goals
   have G5:=jaa g9 (Qr.out (0,iv s.tx) (by simp))
   have Sr:=jaa g9 (Qr.out (8,.slice a8 s.vs.length c8) (by simp))
   clear Qr
   have fS:=qtr Ea.out bZ
   have lW:=qtr fS g9
   go_wp2
   go_ret2
   exact⟨⟨some (ad w7.heap.size 0),by rw[I0.out];rfl,fun _=>⟨_,lb,_,a8,c8,rfl,Cf,Bo,G5,Sr,(RL.out.1.below bZ).below g9,RL.out.2,⟨_,_,kk,w5,a,b,c,d,e,f,ca,cb,cc,cd,ce,cf,Ei.out.2.below g9,Nat.le_trans Ei.out.1 nC.out.2.2.2.2.2.2.2,Ea.out,nC.out.1,nC.out.2.1,nC.out.2.2.1,nC.out.2.2.2.1,nC.out.2.2.2.2.1,nC.out.2.2.2.2.2.1,nC.out.2.2.2.2.2.2.1⟩⟩⟩,lW⟩
