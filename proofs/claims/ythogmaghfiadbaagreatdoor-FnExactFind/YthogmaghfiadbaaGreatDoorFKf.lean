/- Packed. -/
import Derived.Test.YthogmaghfiadbaaGreatDoorFJf
import Derived.Test.YthogmaghfiadbaaGreatDoorSNf
set_option maxHeartbeats 20000000
set_option linter.unusedSimpArgs false
namespace Go.Proofs.YthogmaghfiadbaaGreatDoor
section
open Go.RowKit
structure FndR(r:RelD)(w wr:World)(B p h:Nat)(a b c:Option Addr)(ca cb cc:Nat)(V:List Value)(L:List EventD)(lv:Value)(X:List EntryD)(i:Nat)(out:Value):Prop where
 ex:∃zv tv zs ts,Zk wr B p r a b c ca cb cc zv tv zs ts/\ts.length=zs.length/\zs.length<=i
 own:∃g m k,out=so g m k/\Zb wr (h+1) out X/\X.length=m/\m<=k
 live:Jb wr (h+1) lv L
 sv:Zh wr h V
 bel:Bw w wr
 lo:B<=wr.heap.size
theorem FndR.below{r:RelD}{w wr lK:World}{B p h:Nat}{a b c:Option Addr}{ca cb cc:Nat}{V:List Value}{L:List EventD}{lv:Value}{X X2:List EntryD}{i:Nat}{out io:Value}(hR:FndR r w wr B p h a b c ca cb cc V L lv X i out)(hb:Bw wr lK)(ho:∃g m k,io=so g m k/\Zb lK (h+1) io X2/\X2.length=m/\m<=k):FndR r w lK B p h a b c ca cb cc V L lv X2 i io:=by
 obtain⟨zv,tv,zs,ts,h1,h2,h3⟩:=hR.ex
 exact⟨⟨zv,tv,zs,ts,h1.below hb,h2,h3⟩,ho,jac hR.live hb,hR.sv.below hb,hR.bel.trans (hb.mono hR.bel.size),Nat.le_trans hR.lo hb.size⟩
theorem FndR.ask {r:RelD} {w wr:World} {B p h:Nat} {a b c:Option Addr} {ca cb cc:Nat} {V:List Value} {L:List EventD} {lv:Value} {X:List EntryD} {i:Nat} {out:Value} (hR:FndR r w wr B p h a b c ca cb cc V L lv X i out) (hh:h<B) (gn:w.heap.size<=B) (ev:EventD)
  (hC:∀zv tv zs ts,Zk wr B p r a b c ca cb cc zv tv zs ts->ts.length=zs.length->zs.length<=i->Cl 18 #[.pointer (some (ad p 0)),ev.v] wr (InstP B p r a b c ca cb cc zv tv zs ev wr)):
  Cl 18 #[.pointer (some (ad p 0)),ev.v] wr fun q w2=>q=.returned (.tuple #[iv (momR r ev).1,.bool (momR r ev).2])/\FndR r w w2 B p h a b c ca cb cc V L lv X (i+1) out:=by
 obtain⟨zv,tv,zs,ts,h1,h2,h3⟩:=hR.ex
 refine(hC zv tv zs ts h1 h2 h3).mono fun q w2 hP=>⟨hP.ex,?_⟩
 have hf:=hP.fr
 obtain⟨lL,wS,l8,kZ,k1,k2,k3,k4⟩:=hP.cache
 obtain⟨g,m,k,o1,o2,o3⟩:=hR.own
 have qq:=jcm o2 hf (fun g hg=>h1.not (jby o2 hg) (by decide) (by decide) (by decide))
 have uq:=jcm hR.live hf (fun g hg=>h1.not (jby hR.live hg) (by decide) (by decide) (by decide))
 have uK:=hR.sv.fr hf (fun e=>by have:=h1.low e;omega)
 have df:Bw w w2:=hR.bel.trans (hf.below (fun g hg=>Nat.le_trans gn (h1.low hg)) hR.bel.size)
 exact⟨⟨lL,wS,l8,kZ,k1,k2,by omega⟩,⟨g,m,k,o1,qq,o3⟩,uq,uK,df,Nat.le_trans hR.lo hf.size⟩
end
section
open Go.RowKit
def InsC(r:RelD)(w:World)(a b c:Option Addr)(ca cb cc:Nat)(L:List EventD):Prop:=∀B zv tv zs ts ev wx,ev∈L->Bw w wx->w.heap.size<=B->B<=wx.heap.size->Zk wx B B r a b c ca cb cc zv tv zs ts->ts.length=zs.length->zs.length<=1000->Cl 18 #[.pointer (some (ad B 0)),ev.v] wx (InstP B B r a b c ca cb cc zv tv zs ev wx)
def fndS(s:StoreD)(lo hi:Int)(tb:Bool):List EntryD:=if tb=true then entF (momF (momR s.now) lo hi) (jan s.vs)else []
set_option maxRecDepth 20000 in
theorem jvd (s:StoreD) (v:Value) (lo hi:Int) (tb:Bool) (w:World) (hv:Jd w v s) (Ft:∀w,Jd w v s->Cl 16 #[v] w fun e w'=>e=.returned (.bool tb)/\Bw w w') (tP:tb=true->s.vs.length<=1000/\(jan s.vs).length<=1000) (um:tb=true->∀a b c ca cb cc,Zd w (.agg #[.slice a s.now.rules.length ca,.slice b s.now.zones.length cb,.slice c s.now.links.length cc]) s.now->InsC s.now w a b c ca cb cc (jan s.vs)):
  Cl 5 #[v,iv lo,iv hi] w fun q w'=>∃x,q=.returned x/\Zb w' w.heap.size x (fndS s lo hi tb)/\Bw w w':=by
 have dQ:=hv
 obtain⟨a,b,c,d,e,f,va,ia,ca,cb,cc,cd,ce,cf,cv,ci,rfl,hN,_,hV,_,_,_⟩:=hv.form
 obtain⟨wA,cK,b1,A1,O1,z1⟩:=juv w (stA s a b c d e f va ia ca cb cc cd ce cf cv ci) 41
 have hS:=Ft wA (dQ.below b1)
 obtain⟨x0,x1,x2,x3,x4,x5,x6,x7,x8,x9⟩:=A1.ten
 have HI:=hidE um
 have HV:=hid hV
 have HN:=hid hN
 clear hv dQ Ft hN hV um
 go_enter Tryz.func5,Tryz.ntmps5
 go_wp2_with fail
 refine hS.mono ?_
 rintro e1 w1 ⟨rfl,hb1⟩
 have A2:=A1.below hb1
 have O2:Zb w1 (w.heap.size+1) (.slice (some (ad (w.heap.size+1) 0)) 0 0) []:=jac O1 hb1
 have b2:=qtr b1 hb1
 have bU:w.heap.size+1+1<=w1.heap.size:=by have:=hb1.size;omega
 clear x0 x1 x2 x3 x4 x5 x6 x7 x8 x9 hS cK A1 O1 b1 hb1
 cases tb
 ·go_wp2
  go_ret
  exact⟨_,rfl,jaj O2 (by omega),b2⟩
 obtain⟨tP,ma⟩:=tP rfl
 have jB:=jd1 s.vs va s.vs.length cv w1 (HV.out.below b2) rfl tP
 have y8:=A2.c 8 rfl
 go_wp2_with fail
 refine jB.mono ?_
 rintro q w2 ⟨lv,rfl,aW,ac⟩
 obtain⟨pl,cl,rfl,eG⟩:=jkx aW
 have A3:=A2.below ac
 have O3:Zb w2 (w.heap.size+1) (.slice (some (ad (w.heap.size+1) 0)) 0 0) []:=jac O2 ac
 have b3:=qtr b2 ac
 have y1:=A3.c 1 rfl
 have y2:=A3.c 2 rfl
 have y3:=A3.c 3 rfl
 have HG:=hidE (HI.out (by trivial) a b c ca cb cc HN.out)
 have HS:Hid (fndS s lo hi true=entF (momF (momR s.now) lo hi) (jan s.vs)):=rfl
 obtain⟨L,j4⟩:=qeb (jan s.vs)
 rw[j4]at HG HS aW eG ma ⊢
 obtain⟨nl,fH⟩:=qeb L.length
 have jL:=hid fH
 rw[fH]at eG ma ⊢
 have dR:w.heap.size+1+1<=w2.heap.size:=by have:=ac.size;omega
 obtain⟨w4,yj,jN,KN,TN,z4⟩:=jvv w2 [.slice a s.now.rules.length ca,.slice b s.now.zones.length cb,.slice c s.now.links.length cc,nS,nS]
 have kp:Jb w2 (w.heap.size+1) (.slice pl nl cl) L:=by rw[fH]at aW;exact jaj aW (by omega)
 obtain⟨B,dr⟩:=qeb w2.heap.size
 rw[dr]at KN TN z4
 have lQ:Hid (FndR s.now w w4 B B w.heap.size a b c ca cb cc (stA s a b c d e f va ia ca cb cc cd ce cf cv ci) L (.slice pl nl cl) (entF (momF (momR s.now) lo hi) (L.take 0)) 0 (.slice (some (ad (w.heap.size+1) 0)) 0 0)):=⟨⟨_,_,[],[],jjq KN TN (nlr _),rfl,nlr _⟩,⟨_,0,0,rfl,jac O3 jN,rfl,nlr _⟩,jac kp jN,A3.below jN,(qtr b3 jN),by rw[z4];omega⟩
 have gn:w.heap.size<B:=by omega
 have sZ:=hid eG
 clear KN TN jN aW kp O3 O2 A3 A2 b3 b2 ac jB fH j4 eG z4 y8
 go_wp2
 try simp only[dr]
 clear yj dr dR bU y1 y2 y3
 go_loopw [7,10,11,12] (fun s7 mY _ _ wr=>∃i:Nat,i<=nl/\mY=iv i/\Hid (FndR s.now w wr B B w.heap.size a b c ca cb cc (stA s a b c d e f va ia ca cb cc cd ce cf cv ci) L (.slice pl nl cl) (entF (momF (momR s.now) lo hi) (L.take i)) i s7)) (fun _ mY _ _ _=>nl-(intOf mY).toNat)
 case atStart=>exact⟨0,by omega,rfl,lQ⟩
 case round=>
  obtain⟨wa,dS⟩:=qea wr
  subst dS
  obtain⟨i,hin,rfl,HR⟩:=hrel
  clear lQ
  obtain⟨go,mo,co,qJ,ly,iD,vi⟩:=HR.out.own
  subst qJ
  by_cases hlt:i<nl
  ·have i1:(i:Int)<(nl:Int):=by omega
   have i0:(0:Int)<=(i:Int):=by omega
   obtain⟨gl,rfl⟩:=sZ.out (by omega)
   obtain⟨ev,jb⟩:∃x,L[i]? =some x:=⟨_,lgg (by have:=jL.out;omega)⟩
   have HT:Hid (entF (momF (momR s.now) lo hi) (L.take (i+1))=entAdd (momF (momR s.now) lo hi) (entF (momF (momR s.now) lo hi) (L.take i)) ev):=jo5 jb
   have yE:=hid jb
   obtain⟨c0,c1,c2,c3,c4,c5⟩:=jf0 HR.out.live jb
   have xQ:mo<=1000:=by have h1:=jep (momF (momR s.now) lo hi) (L.take i);rw[List.length_take]at h1;omega
   have lq:=HR.out.ask (by omega) (by omega) ev (fun zv tv zs ts k1 k2 k3=>HG.out B zv tv zs ts ev wa (lmg jb) HR.out.bel (by omega) HR.out.lo k1 k2 (by omega))
   have js:Hid (∀wx,FndR s.now w wx B B w.heap.size a b c ca cb cc (stA s a b c d e f va ia ca cb cc cd ce cf cv ci) L (so gl nl cl) (entF (momF (momR s.now) lo hi) (L.take i)) (i+1) (so go mo co)->wx.cell? (ad gl (i*6))=some (iv ev.id)):=fun wx h=>(jf0 h.live yE.out).1
   obtain⟨⟨M1,M2⟩,hM⟩:=qeb (momR s.now ev)
   rw[hM]at lq
   simp only[EventD.v]at lq
   have HM:Hid (momF (momR s.now) lo hi ev=(M1,M2&&rgB lo hi M1)):=by simp only[Hid,momF,hM]
   clear hM jb ly
   go_wp2_with fail
   refine lq.mono ?_
   rintro q w5 ⟨rfl,eC⟩
   have f0:=js.out w5 eC
   have gr:=hidE eC
   clear eC lq c0 c1 c2 c3 c4 c5
   have yM:Hid ((M2&&rgB lo hi M1)=false->FndR s.now w w5 B B w.heap.size a b c ca cb cc (stA s a b c d e f va ia ca cb cc cd ce cf cv ci) L (so gl nl cl) (entF (momF (momR s.now) lo hi) (L.take (i+1))) (i+1) (so go mo co)):=fun h=>by
    rw[HT.out,entAdd,HM.out,if_neg (by simp[h])]
    exact gr.out
   by_cases qC:M2=true/\lo<=M1/\M1<=hi
   ·obtain⟨rfl,g1,g2⟩:=qC
    have HB:Hid ((true&&rgB lo hi M1)=true):=by simp only[Hid];rw[j3b g1 g2];rfl
    obtain⟨g5,m5,k5,vq,fe,kE,uY⟩:=gr.out.own
    injection vq with h1 h2 h3
    injection h1 with h1
    injection h1 with h1
    subst h1 h2 h3
    have ir:=je8 (entF (momF (momR s.now) lo hi) (L.take i)) ⟨M1,ev.id⟩ go mo co (w.heap.size+1) w5 fe kE uY xQ
    have sV:=hidE kE
    clear fe kE yM
    go_wp2_with fail
    refine ir.mono ?_
    rintro q w6 ⟨g6,c6,rfl,mu,fV,hb6⟩
    have te:Hid (FndR s.now w w6 B B w.heap.size a b c ca cb cc (stA s a b c d e f va ia ca cb cc cd ce cf cv ci) L (so gl nl cl) (entF (momF (momR s.now) lo hi) (L.take (i+1))) (i+1) (so g6 (mo+1) c6)):=by
     simp only[Hid]
     rw[HT.out,entAdd,HM.out,if_pos HB.out]
     exact gr.out.below hb6 ⟨g6,mo+1,c6,rfl,jaj fV (Nat.le_trans (by omega) gr.out.lo),by rw[ja9,sV.out],mu⟩
    clear fV hb6 ir
    go_wp2
    go_roundw
    case rel=>exact⟨i+1,by omega,by go_num,te⟩
    case measure=>simp[intOf];omega
   ·have li:Hid (FndR s.now w w5 B B w.heap.size a b c ca cb cc (stA s a b c d e f va ia ca cb cc cd ce cf cv ci) L (so gl nl cl) (entF (momF (momR s.now) lo hi) (L.take (i+1))) (i+1) (so go mo co)):=yM.out (by
     cases M2
     ·rfl
     ·have h3:M1<lo\/hi<M1:=by
       by_cases g:lo<=M1
       ·have h4:¬M1<=hi:=fun h=>qC ⟨rfl,g,h⟩
        exact .inr (by omega)
       ·exact .inl (by omega)
      rw[j1t h3]
      rfl)
    clear yM
    cases M2
    ·go_wp2
     go_roundw
     case rel=>exact⟨i+1,by omega,by go_num,li⟩
     case measure=>simp[intOf];omega
    ·by_cases g1:lo<=M1
     ·have g2:¬M1<=hi:=fun h=>qC ⟨rfl,g1,h⟩
      go_wp2
      go_roundw
      case rel=>exact⟨i+1,by omega,by go_num,li⟩
      case measure=>simp[intOf];omega
     ·go_wp2
      go_roundw
      case rel=>exact⟨i+1,by omega,by go_num,li⟩
      case measure=>simp[intOf];omega
  ·obtain rfl:i=nl:=by omega
   have HF:Hid (Zb wa w.heap.size (so go mo co) (entF (momF (momR s.now) lo hi) L)):=by
    rw[List.take_of_length_le (by rw[jL.out];exact nlr _)]at ly
    exact jaj ly (by omega)
   have BP:=HR.out.bel
   clear ly
   go_wp2
   go_ret
   exact⟨(so go mo co),rfl,by rw[HS.out];exact HF.out,BP⟩
end
section
open Go.RowKit
theorem jgj{s:StoreD}(h:storeI s=true):relB s.now=true/\verB s.vs s.tx=true/\(jan s.vs).all (fun x=>jdv s x.zone)=true/\(jan s.vs).length<=30/\s.vs.length<=60:=by
 rw[<- jkt]at h
 unfold storeS at h
 simp only[bat]at h
 obtain⟨h1,_,_,h4,_,_,h7,h8,_⟩:=h
 exact⟨h1,h4,h8,odt h7,jun h4⟩
theorem j1z{s:StoreD}{e:EventD}(h1:relB s.now=true)(hz:jdv s e.zone=true)(hs:e.zone.size<=8000):momR s.now e=momD s.now e:=by
 unfold jdv at hz
 simp only[bat]at hz
 unfold momD momR
 rw[jlk h1 hz.1 hs]
theorem j0b(s:StoreD)(lo hi:Int):fndS s lo hi (storeI s)=fndI s lo hi:=by
 unfold fndS fndI
 split
 ·rename_i h
  obtain⟨h1,h4,h8,_,_⟩:=jgj h
  refine jo6 fun e he=>?_
  obtain⟨v,hm,rfl⟩:=jl5 he
  unfold momF
  rw[j1z h1 (List.all_eq_true.mp h8 _ he) (jhs (jfk h4 v hm)).zone]
 ·rfl
theorem jxe(s:StoreD)(v:Value)(lo hi:Int)(w:World)(hv:Jd w v s)(ok:Zr s):
  Cl 5 #[v,iv lo,iv hi] w fun q w'=>∃x,q=.returned x/\Zb w' w.heap.size x (fndI s lo hi)/\Bw w w':=by
 rw[<- j0b]
 refine jvd s v lo hi (storeI s) w hv (fun w h=>?_) (fun h=>?_) (fun h a b c ca cb cc hN B zv tv zs ts ev wx hm hb hB cR hA hl hn=>?_)
 ·have h2:=jh8 s v w h ok
  rw[jkt]at h2
  exact h2
 ·obtain⟨_,_,_,h9,AJ⟩:=jgj h
  exact⟨by omega,by omega⟩
 ·obtain⟨h1,h4,_⟩:=jgj h
  obtain⟨u,hu,rfl⟩:=jl5 hm
  exact jd3 w B B s.now a b c ca cb cc zv tv zs ts _ wx hN hb hB cR ok.now h1 hA hl hn (jhs (jfk h4 u hu))
end
end Go.Proofs.YthogmaghfiadbaaGreatDoor
