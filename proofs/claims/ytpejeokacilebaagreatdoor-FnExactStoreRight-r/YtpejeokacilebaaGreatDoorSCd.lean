import Derived.OpenShut
import Derived.Lib.BufferOwn
import Derived.Lib.HexFns2
import Derived.Test.YtpejeokacilebaaGreatDoorRightQd
import Derived.Test.YtpejeokacilebaaGreatDoorSAd
import Derived.Test.YtpejeokacilebaaGreatDoorStrQd
set_option maxRecDepth 100000
set_option maxHeartbeats 0
set_option linter.unusedSimpArgs false
open Go.RowKit Go.Sort
namespace Go.Proofs.YtpejeokacilebaaGreatDoor
def scan(s:ByteArray):Nat->List ByteArray × Nat
 |0=>([],0)
 |k+1=>if jae s k=58 then((scan s k).1++[s.extract (scan s k).2 k],k+1)else scan s k
def parts(s:ByteArray):List ByteArray:=(scan s s.size).1++[s.extract (scan s s.size).2 s.size]
theorem jlv(n:Int)(w:World):
  Cl 69 #[iv n] w fun e w'=>e=.returned (.bool (isB n (-62135596800) 253402300799))/\w'=w:=by
 unfold Cl;go_in
 go_wp2_with (go_at_call 13;refine(jau _ _ _ _).mono ?_;rintro e w' ⟨rfl,rfl⟩)
 go_ret
 exact⟨rfl,rfl⟩
def jbm(e:EventD):Bool:=isB e.id 1 1000000&&(jaz e.name&&(jaz e.zone&&(isB e.wall (-62135596800) 253402300799&&(isB e.gap 0 2&&isB e.fold 0 2))))
theorem jlo(e:EventD)(w:World)(m1:e.name.size<=maxLen)(m2:e.zone.size<=maxLen):
  Cl 35 #[e.v] w fun r w'=>r=.returned (.bool (jbm e))/\Bw w w':=by
 obtain⟨id,name,zone,wall,gap,fold⟩:=e
 simp only[EventD.v,jbm]at *
 have hB:=qal w (.cells #[iv id,.string name,.string zone,iv wall,iv gap,iv fold] 54)
 have k0:=fun w=>jau id 1 1000000 w
 have k1:=fun w=>jbu name w m1
 have k2:=fun w=>jbu zone w m2
 have k3:=fun w=>jlv wall w
 have k4:=fun w=>jau gap 0 2 w
 have k5:=fun w=>jau fold 0 2 w
 unfold Cl;go_in
 go_wp2_with fail
 refine(k0 _).mono ?_
 rintro e wx ⟨rfl,bC⟩
 have dl:=bC.symm
 clear bC
 subst dl
 cases h0:isB id 1 1000000
 case false=>
  have H0:=hid h0
  clear h0
  go_wp2
  go_ret
  exact⟨ret_bool (by rw[H0.out];rfl),hB⟩
 have H0:=hid h0
 clear h0
 go_wp2_with fail
 refine(k1 _).mono ?_
 rintro e wx ⟨rfl,bC⟩
 have dl:=bC.symm
 clear bC
 subst dl
 cases h1:jaz name
 case false=>
  have H1:=hid h1
  clear h1
  go_wp2
  go_ret
  exact⟨ret_bool (by rw[H0.out,H1.out];rfl),hB⟩
 have H1:=hid h1
 clear h1
 go_wp2_with fail
 refine(k2 _).mono ?_
 rintro e wx ⟨rfl,bC⟩
 have dl:=bC.symm
 clear bC
 subst dl
 cases h2:jaz zone
 case false=>
  have H2:=hid h2
  clear h2
  go_wp2
  go_ret
  exact⟨ret_bool (by rw[H0.out,H1.out,H2.out];rfl),hB⟩
 have H2:=hid h2
 clear h2
 go_wp2_with fail
 refine(k3 _).mono ?_
 rintro e wx ⟨rfl,bC⟩
 have dl:=bC.symm
 clear bC
 subst dl
 cases h3:isB wall (-62135596800) 253402300799
 case false=>
  have H3:=hid h3
  clear h3
  go_wp2
  go_ret
  exact⟨ret_bool (by rw[H0.out,H1.out,H2.out,H3.out];rfl),hB⟩
 have H3:=hid h3
 clear h3
 go_wp2_with fail
 refine(k4 _).mono ?_
 rintro e wx ⟨rfl,bC⟩
 have dl:=bC.symm
 clear bC
 subst dl
 cases h4:isB gap 0 2
 case false=>
  have H4:=hid h4
  clear h4
  go_wp2
  go_ret
  exact⟨ret_bool (by rw[H0.out,H1.out,H2.out,H3.out,H4.out];rfl),hB⟩
 have H4:=hid h4
 clear h4
 go_wp2_with fail
 refine(k5 _).mono ?_
 rintro e wx ⟨rfl,bC⟩
 have dl:=bC.symm
 clear bC
 subst dl
 cases h5:isB fold 0 2
 case false=>
  have H5:=hid h5
  clear h5
  go_wp2
  go_ret
  exact⟨ret_bool (by rw[H0.out,H1.out,H2.out,H3.out,H4.out,H5.out];rfl),hB⟩
 have H5:=hid h5
 clear h5
 go_wp2
 go_ret
 exact⟨ret_bool (by rw[H0.out,H1.out,H2.out,H3.out,H4.out,H5.out];rfl),hB⟩
theorem jjd(e:EventD)(w:World)(m1:e.name.size<=maxLen)(m2:e.zone.size<=maxLen):
  Cl 77 #[e.v] w fun r w'=>r=.returned (.bool (jbm e))/\Bw w w':=by
 obtain⟨id,name,zone,wall,gap,fold⟩:=e
 simp only[EventD.v,jbm]at *
 have hB:=qal w (.cells #[iv id,.string name,.string zone,iv wall,iv gap,iv fold] 54)
 have k1:=fun w=>ja7 name w m1
 have k2:=fun w=>ja7 zone w m2
 have k3:=fun w=>jg1 wall w
 have k4:=fun w=>jbw gap w
 have k5:=fun w=>jbw fold w
 cases h0:isB id 1 1000000
 case false=>
  have q:¬((1:Int)<=id/\id<=1000000):=of_decide_eq_false h0
  clear h0
  by_cases q1:(1:Int)<=id
  ·have q2:¬id<=1000000:=fun h=>q ⟨q1,h⟩
   clear q
   unfold Cl;go_in
   go_wp2
   go_ret
   exact⟨rfl,hB⟩
  ·clear q
   unfold Cl;go_in
   go_wp2
   go_ret
   exact⟨rfl,hB⟩
 obtain⟨q1,q2⟩:=jax h0
 clear h0
 unfold Cl;go_in
 go_wp2_with fail
 refine(k1 _).mono ?_
 rintro e wx ⟨rfl,bC⟩
 have dl:=bC.symm
 clear bC
 subst dl
 cases h1:jaz name
 case false=>
  have H1:=hid h1
  clear h1
  go_wp2
  go_ret
  exact⟨ret_bool (by rw[H1.out];rfl),hB⟩
 have H1:=hid h1
 clear h1
 go_wp2_with fail
 refine(k2 _).mono ?_
 rintro e wx ⟨rfl,bC⟩
 have dl:=bC.symm
 clear bC
 subst dl
 cases h2:jaz zone
 case false=>
  have H2:=hid h2
  clear h2
  go_wp2
  go_ret
  exact⟨ret_bool (by rw[H1.out,H2.out];rfl),hB⟩
 have H2:=hid h2
 clear h2
 go_wp2_with fail
 refine(k3 _).mono ?_
 rintro e wx ⟨rfl,bC⟩
 have dl:=bC.symm
 clear bC
 subst dl
 cases h3:isB wall (-62135596800) 253402300799
 case false=>
  have H3:=hid h3
  clear h3
  go_wp2
  go_ret
  exact⟨ret_bool (by rw[H1.out,H2.out,H3.out];rfl),hB⟩
 have H3:=hid h3
 clear h3
 go_wp2_with fail
 refine(k4 _).mono ?_
 rintro e wx ⟨rfl,bC⟩
 have dl:=bC.symm
 clear bC
 subst dl
 cases h4:isB gap 0 2
 case false=>
  have H4:=hid h4
  clear h4
  go_wp2
  go_ret
  exact⟨ret_bool (by rw[H1.out,H2.out,H3.out,H4.out];rfl),hB⟩
 have H4:=hid h4
 clear h4
 go_wp2_with fail
 refine(k5 _).mono ?_
 rintro e wx ⟨rfl,bC⟩
 have dl:=bC.symm
 clear bC
 subst dl
 cases h5:isB fold 0 2
 case false=>
  have H5:=hid h5
  clear h5
  go_wp2
  go_ret
  exact⟨ret_bool (by rw[H1.out,H2.out,H3.out,H4.out,H5.out];rfl),hB⟩
 have H5:=hid h5
 clear h5
 go_wp2
 go_ret
 exact⟨ret_bool (by rw[H1.out,H2.out,H3.out,H4.out,H5.out];rfl),hB⟩
def je9(a b:EventD):Bool:=decide (a.id=b.id)&&((a.name.toList==b.name.toList)&&((a.zone.toList==b.zone.toList)&&(decide (a.wall=b.wall)&&(decide (a.gap=b.gap)&&decide (a.fold=b.fold)))))
theorem jo3 : ∃ a b c d e f g h i j k l m n o p q r, (Tryz.prog.fieldsOf 54).toList = [⟨ "Id", 2, 0, false, a, b, c⟩, ⟨ "Name", 9, 1, false, d, e, f⟩, ⟨ "Zone", 9, 2, false, g, h, i⟩, ⟨ "Wall", 2, 3, false, j, k, l⟩, ⟨ "Gap", 2, 4, false, m, n, o⟩, ⟨ "Fold", 2, 5, false, p, q, r⟩] := ⟨_, _, _, _, _, _, _, _, _, _, _, _, _, _, _, _, _, _, rfl⟩
theorem jsf(a b:EventD)(w:World):(Op.equalIn 10000 54 (.agg #[iv a.id,.string a.name,.string a.zone,iv a.wall,iv a.gap,iv a.fold]) (.agg #[iv b.id,.string b.name,.string b.zone,iv b.wall,iv b.gap,iv b.fold])).run Tryz.prog w=.ok (je9 a b) w:=by
 have ht:Tryz.prog.underlying 54=some (.struct (Tryz.prog.fieldsOf 54)):=by kernel_rfl
 have hp:Tryz.prog.stoodInHeld 54=false:=by kernel_rfl
 obtain⟨_,_,_,_,_,_,_,_,_,_,_,_,_,_,_,_,_,_,hf⟩:=jo3
 rw[run_equalIn_agg _ 9999 _ _ _ ht hp,hf]
 obtain⟨a1,a2,a3,a4,a5,a6⟩:=a
 obtain⟨b1,b2,b3,b4,b5,b6⟩:=b
 simp only[je9]
 simp[Op.eqFields,go_sem]
 by_cases h1:a1=b1
 ·by_cases h2:a2.toList=b2.toList
  ·by_cases h3:a3.toList=b3.toList
   ·by_cases h4:a4=b4
    ·by_cases h5:a5=b5
     ·by_cases h6:a6=b6
      ·simp[h1,h2,h3,h4,h5,h6]
      ·simp[h1,h2,h3,h4,h5,h6]
     ·simp[h1,h2,h3,h4,h5]
    ·simp[h1,h2,h3,h4]
   ·simp[h1,h2,h3]
  ·simp[h1,h2]
 ·simp[h1]
theorem jil(a b:EventD)(w:World):(binOp .neq 54 (.agg #[iv a.id,.string a.name,.string a.zone,iv a.wall,iv a.gap,iv a.fold]) (.agg #[iv b.id,.string b.name,.string b.zone,iv b.wall,iv b.gap,iv b.fold])).run Tryz.prog w=.ok (.bool (!je9 a b)) w:=by
 rw[run_neq_struct,jsf];rfl
theorem jxh(a b:EventD)(w:World):(binOp .eql 54 (.agg #[iv a.id,.string a.name,.string a.zone,iv a.wall,iv a.gap,iv a.fold]) (.agg #[iv b.id,.string b.name,.string b.zone,iv b.wall,iv b.gap,iv b.fold])).run Tryz.prog w=.ok (.bool (je9 a b)) w:=by
 rw[run_eql_struct,jsf];rfl
theorem jji(op:BinOp)(x y:Operand)(v1 v2:Array Value)(w:World):(eqGuard op 54 x y (.agg v1) (.agg v2)).run Tryz.prog w=.ok () w:=run_eqGuard_agg w _ _ _ _ _ _ (by kernel_rfl)
def jdr(l:List VersionD)(i:Nat)(v:VersionD):Bool:=match jch (l.take i) v.id with
 |some e=>je9 e v.ev
 |none=>false
def jd5(l:List VersionD):Nat->Int
 |0=>0
 |k+1=>match l[k]? with
  |some v=>v.tx
  |none=>0
def verI(l:List VersionD)(aN:Int)(i:Nat)(v:VersionD):Bool:=decide (jd5 l i<v.tx)&&(decide (v.tx<=aN)&&(jbm v.ev&&(!v.gone || jdr l i v)))
def verK(l:List VersionD)(aN:Int):Nat->Bool
 |0=>true
 |k+1=>verK l aN k&&(match l[k]? with
  |some v=>verI l aN k v
  |none=>true)
def verB(l:List VersionD)(aN:Int):Bool:=decide (l.length<=60)&&verK l aN l.length
theorem j1e{l:List VersionD}{aN:Int}{k:Nat}{v:VersionD}(hv:l[k]? =some v)(h:verI l aN k v=false):∀{n:Nat},k<n->verK l aN n=false:=by
 intro n
 induction n with
 |zero=>intro hn;omega
 |succ n ih=>
  intro hn
  rw[verK]
  by_cases e:k=n
  ·subst e;rw[hv];simp[h]
  ·rw[ih (by omega)];rfl
theorem jyd{l:List VersionD}{aN:Int}{k:Nat}{v:VersionD}(hv:l[k]? =some v)(h:verI l aN k v=true)(hk:verK l aN k=true):verK l aN (k+1)=true:=by rw[verK,hk,hv];simp[h]
theorem juq{l:List VersionD}{aN:Int}(h:¬l.length<=60):verB l aN=false:=by unfold verB;rw[dfe h];rfl
theorem j1f{l:List VersionD}{aN:Int}(h:l.length<=60):verB l aN=verK l aN l.length:=by unfold verB;rw[dte h];rfl
theorem jty{l:List VersionD}{i:Nat}{v:VersionD}(h:jci (l.take i) v.id=none):jdr l i v=false:=by unfold jdr jch;rw[h]
theorem jtz{l:List VersionD}{i k:Nat}{v x:VersionD}(h:jci (l.take i) v.id=some k)(hx:(l.take i)[k]? =some x)(hg:x.gone=true):jdr l i v=false:=by unfold jdr jch;rw[h];simp only;rw[hx];simp[hg]
theorem jz5{l:List VersionD}{i k:Nat}{v x:VersionD}(h:jci (l.take i) v.id=some k)(hx:(l.take i)[k]? =some x)(hg:x.gone=false):jdr l i v=je9 x.ev v.ev:=by unfold jdr jch;rw[h];simp only;rw[hx];simp[hg]
theorem jg7(l:List VersionD)(aN cur:Int)(r0 r1 r2 r3 r4 r5 va ia:Option Addr)(p0 q0 p1 q1 p2 q2 p3 q3 p4 q4 p5 q5 n cv ni ci:Nat)(w:World)(hA:Za w va 8 (l.map VersionD.cs))(gW:∀v∈l,v.ok)(hn:l.length=n)(hl:n<=1048576)(FR:n<=cv):
  Cl 14 #[.agg #[iv aN,.slice r0 p0 q0,.slice r1 p1 q1,.slice r2 p2 q2,.slice r3 p3 q3,.slice r4 p4 q4,.slice r5 p5 q5,iv cur,.slice va n cv,.slice ia ni ci]] w fun e w'=>e=.returned (.bool (verB l aN))/\Bw w w':=by
 have ag:Bw w (w.alloc (.cells #[iv aN,.slice r0 p0 q0,.slice r1 p1 q1,.slice r2 p2 q2,.slice r3 p3 q3,.slice r4 p4 q4,.slice r5 p5 q5,iv cur,.slice va n cv,.slice ia ni ci] 41)):=qal _ _
 have mH:=fun a b w=>jil a b w
 have xZ:=fun op x y v1 v2 w=>jji op x y v1 v2 w
 by_cases tP:60<n
 ·rw[juq (by omega)]
  have AL:(60:Int)<(n:Int):=by omega
  unfold Cl;go_in
  go_wp2
  go_ret
  exact⟨rfl,ag⟩
 have AL:¬(60:Int)<(n:Int):=by omega
 obtain⟨VB,qn⟩:=qeb (verB l aN)
 have HV:Hid (VB=verK l aN n):=by simp only[Hid];rw[<- qn,j1f (by omega),hn]
 rw[qn]
 clear qn
 have HN:=hid hn
 have HO:=hid gW
 obtain⟨s0,s4⟩:(fun z:World=>z.cell? (ad w.heap.size 0)=some (iv aN)/\z.cell? (ad w.heap.size 8)=some (.slice va n cv)) (w.alloc (.cells #[iv aN,.slice r0 p0 q0,.slice r1 p1 q1,.slice r2 p2 q2,.slice r3 p3 q3,.slice r4 p4 q4,.slice r5 p5 q5,iv cur,.slice va n cv,.slice ia ni ci] 41)):=by simp[go_sem]
 have eK:=hA.below ag
 clear hn gW hA
 unfold Cl;go_in
 go_wp2
 generalize (w.alloc (.cells #[iv aN,.slice r0 p0 q0,.slice r1 p1 q1,.slice r2 p2 q2,.slice r3 p3 q3,.slice r4 p4 q4,.slice r5 p5 q5,iv cur,.slice va n cv,.slice ia ni ci] 41))=w0 at *
 go_loopw [3,4,5,6] (fun t s _ _ wr=>∃i:Nat,i<=n/\s=iv i/\t=iv (jd5 l i)/\Hid (verK l aN i=true)/\Bw w0 wr) (fun _ s _ _ _=>n-(intOf s).toNat)
 case atStart=>exact⟨0,by omega,rfl,rfl,rfl,brf _ _⟩
 case round=>
  obtain⟨wa,dS⟩:=qea wr
  subst dS
  obtain⟨i,hin,rfl,rfl,HK,aK⟩:=hrel
  have t0:=jaa aK s0
  have t4:=jaa aK s4
  have iu:=eK.below aK
  have cR:=qtr ag aK
  clear s0 s4 eK ag
  by_cases hlt:i<n
  ·have a1:(i:Int)<(n:Int):=by omega
   have a0:(0:Int)<=(i:Int):=by omega
   have a2:(i:Int)<=(cv:Int):=by omega
   obtain⟨v,hv⟩:∃v,l[i]? =some v:=⟨_,lgg (by have:=HN.out;omega)⟩
   have ap:(l.map VersionD.cs)[i]? =some v.cs:=by rw[lgm,hv];rfl
   obtain⟨b,ob,rfl,hc⟩:=iu.at (i:=i) ap
   have c0:wa.cell? (ad b (ob+i*8))=some (iv v.tx):=hc 0 _ rfl
   have c1:wa.cell? (ad b (ob+i*8+1))=some (.bool v.gone):=hc 1 _ rfl
   have c2:wa.cell? (ad b (ob+i*8+2))=some (iv v.id):=hc 2 _ rfl
   have c3:wa.cell? (ad b (ob+i*8+3))=some (.string v.name):=hc 3 _ rfl
   have c4:wa.cell? (ad b (ob+i*8+4))=some (.string v.zone):=hc 4 _ rfl
   have c5:wa.cell? (ad b (ob+i*8+5))=some (iv v.wall):=hc 5 _ rfl
   have c6:wa.cell? (ad b (ob+i*8+6))=some (iv v.gap):=hc 6 _ rfl
   have c7:wa.cell? (ad b (ob+i*8+7))=some (iv v.fold):=hc 7 _ rfl
   clear hc ap
   have sM:=HO.out v (lmg hv)
   have gM:Hid (verI l aN i v=false->VB=false):=fun h1=>by rw[HV.out];exact j1e hv h1 (by omega)
   have lR:Hid (verI l aN i v=true->verK l aN (i+1)=true):=fun h=>jyd hv h HK.out
   have oR:Hid (jd5 l (i+1)=v.tx):=by simp only[Hid];rw[jd5,hv]
   have dZ:=fun w=>jlo v.ev w sM.1 sM.2
   simp only[EventD.v,VersionD.ev]at dZ
   have FA:∀w1,Bw wa w1->Za w1 (some (ad b ob)) 8 ((l.take i).map VersionD.cs):=fun w1 hb=>by
    rcases iu.below hb with h0|⟨b',o',cm,fx⟩
    ·have:=HN.out;simp at h0;rw[h0]at this;simp at this;omega
    ·refine .inr ⟨b',o',cm,fun x y r u hr hu=>fx x y r u ?_ hu⟩
     rw[List.map_take]at hr
     have hx:x<i:=by have:=(lgs hr).1;simp at this;omega
     rw[List.getElem?_take_of_lt hx]at hr
     exact hr
   have hL:=fun w1 hb=>jgn (l.take i) (some (ad b ob)) i cv v.id w1 (FA w1 hb) (by rw[List.length_take,HN.out];omega) (by omega)
   obtain⟨kk,sE⟩:=qeb (jci (l.take i) v.id)
   rw[sE]at hL
   have xg:=hid sE
   clear sE FA
   go_upto_region 8 with fail
   clear c0 c1 c3 c4 c5 c6 c7
   have bV:Bw wa (wa.alloc (.cells #[iv v.tx,.bool v.gone,iv v.id,.string v.name,.string v.zone,iv v.wall,iv v.gap,iv v.fold] 87)):=qal _ _
   obtain⟨y0,y1,y2,y3,y4,y5,y6,y7⟩:(fun z:World=>z.cell? (ad wa.heap.size 0)=some (iv v.tx)/\z.cell? (ad wa.heap.size 1)=some (.bool v.gone)/\z.cell? (ad wa.heap.size 2)=some (iv v.id)/\z.cell? (ad wa.heap.size 3)=some (.string v.name)/\z.cell? (ad wa.heap.size 4)=some (.string v.zone)/\z.cell? (ad wa.heap.size 5)=some (iv v.wall)/\z.cell? (ad wa.heap.size 6)=some (iv v.gap)/\z.cell? (ad wa.heap.size 7)=some (iv v.fold)) (wa.alloc (.cells #[iv v.tx,.bool v.gone,iv v.id,.string v.name,.string v.zone,iv v.wall,iv v.gap,iv v.fold] 87)):=by simp[go_sem]
   have u0:=jaa bV t0
   have u4:=jaa bV t4
   have EY:=iu.below bV
   have AW:=qtr cR bV
   have df:=qtr aK bV
   have jB:Cl 34 #[.slice (some (ad b ob)) i cv,iv v.id] (wa.alloc (.cells #[iv v.tx,.bool v.gone,iv v.id,.string v.name,.string v.zone,iv v.wall,iv v.gap,iv v.fold] 87)).drew _:=hL (wa.alloc (.cells #[iv v.tx,.bool v.gone,iv v.id,.string v.name,.string v.zone,iv v.wall,iv v.gap,iv v.fold] 87)).drew (bV.trans ((jab _).mono bV.size))
   clear t0 t4 iu cR aK hL bV c2
   generalize (wa.alloc (.cells #[iv v.tx,.bool v.gone,iv v.id,.string v.name,.string v.zone,iv v.wall,iv v.gap,iv v.fold] 87))=wv at *
   generalize wa.heap.size=bt at *
   skip
   go_wp2_with fail
   refine wp_region_noPanic ?_
   refine wp_region_held_drew (S:=fun w'=>w'.cell? (ad w.heap.size 8)=some (.slice (some (ad b ob)) n cv)/\w'.cell? (ad bt 2)=some (iv v.id)) (by kernel_rfl) ⟨(show wv.drew.cell? (ad w.heap.size 8)=_ from u4),(show wv.drew.cell? (ad bt 2)=_ from y2)⟩ (fun cZ=>?_)
   have z0:=jaa (jab wv) u0
   have z4:=jaa (jab wv) u4
   have x0:=jaa (jab wv) y0
   have x1:=jaa (jab wv) y1
   have x2:=jaa (jab wv) y2
   have x3:=jaa (jab wv) y3
   have x4:=jaa (jab wv) y4
   have x5:=jaa (jab wv) y5
   have x6:=jaa (jab wv) y6
   have x7:=jaa (jab wv) y7
   have iw:=EY.below (jab wv)
   have dV:=AW.trans ((jab wv).mono AW.size)
   have gu:=df.trans ((jab wv).mono df.size)
   clear u0 u4 EY AW df y0 y1 y2 y3 y4 y5 y6 y7
   refine wpAnyH_take (i:=0) (v:=?v1) rfl (by kernel_rfl) (by kernel_rfl) (by kernel_rfl) (fun _ _ _ h=>h) (Or.inl ⟨by kernel_rfl,?y1⟩) cZ ?z1
   case y1=>(intro wq dA;(try dsimp only at dA);go_simp;try with_reducible rfl)
   try simp only[Act.put,qq1,qq2,qq3]
   refine wpAnyH_take (i:=1) (v:=?v2) rfl (by kernel_rfl) (by kernel_rfl) (by kernel_rfl) (fun _ _ _ h=>h) (Or.inl ⟨by kernel_rfl,?y2⟩) cZ ?z2
   case y2=>(intro wq dA;(try dsimp only at dA);go_simp;try with_reducible rfl)
   try simp only[Act.put,qq1,qq2,qq3]
   refine wpAnyH_take (i:=2) (v:=?v3) rfl (by kernel_rfl) (by kernel_rfl) (by kernel_rfl) (fun _ _ _ h=>h) (Or.inl ⟨by kernel_rfl,?y3⟩) cZ ?z3
   case y3=>(intro wq dA;(try dsimp only at dA);go_simp;try with_reducible rfl)
   try simp only[Act.put,qq1,qq2,qq3]
   refine wpAnyH_take (i:=3) (v:=?v4) rfl (by kernel_rfl) (by kernel_rfl) (by kernel_rfl) (fun _ _ _ h=>h) (Or.inl ⟨by kernel_rfl,?y4⟩) cZ ?z4
   case y4=>(intro wq dA;(try dsimp only at dA);go_simp;try with_reducible rfl)
   try simp only[Act.put,qq1,qq2,qq3]
   refine wpAnyH_take (i:=4) (v:=?v5) rfl (by kernel_rfl) (by kernel_rfl) (by kernel_rfl) (fun _ _ _ h=>h) (Or.inl ⟨by kernel_rfl,?y5⟩) cZ ?z5
   case y5=>(intro wq dA;(try dsimp only at dA);go_simp;try with_reducible rfl)
   try simp only[Act.put,qq1,qq2,qq3]
   refine wpAnyH_take (i:=5) (v:=?v6) rfl (by kernel_rfl) (by kernel_rfl) (by kernel_rfl) (fun _ _ _ h=>h) (Or.inl ⟨by kernel_rfl,?y6⟩) cZ ?z6
   case y6=>(intro wq dA;(try dsimp only at dA);go_simp;try with_reducible rfl)
   try simp only[Act.put,qq1,qq2,qq3]
   refine wpAnyH_take (i:=6) (v:=?v7) rfl (by kernel_rfl) (by kernel_rfl) (by kernel_rfl) (fun _ _ _ h=>h) (Or.inl ⟨by kernel_rfl,?y7⟩) cZ ?z7
   case y7=>(intro wq dA;(try dsimp only at dA);go_simp;try with_reducible rfl)
   try simp only[Act.put,qq1,qq2,qq3]
   refine wpAnyH_ready (rs:=[7]) (by kernel_rfl) (by simp) ?_
   refine AllReadyH.cons rfl (fun K hK=>?_) AllReadyH.nil
   go_simp
   refine jB.mono ?_
   rintro e wx ⟨rfl,bC⟩
   have dl:=bC.symm
   clear bC
   subst dl
   go_wp2_with fail
   refine hK.out _ _ ⟨z4,x2⟩ (fun cZ=>?_)
   clear hK K jB
   try simp only[Act.put,qq1,qq2,qq3]
   refine wpAnyH_take (i:=8) (v:=?v8) rfl (by kernel_rfl) (by kernel_rfl) (by kernel_rfl) (fun _ _ _ h=>h) (Or.inl ⟨by kernel_rfl,?y8⟩) cZ ?z8
   case y8=>(intro wq dA;(try dsimp only at dA);go_simp;try with_reducible rfl)
   try simp only[Act.put,qq1,qq2,qq3]
   try simp only[Act.put,List.getElem_toArray,List.getElem_cons_succ,List.getElem_cons_zero,qq1,qq2,qq3]
   refine wpAnyH_done (by kernel_rfl) ?_ _
   refine NoPanic.normal ?_
   clear cZ
   generalize wv.drew=wz at *
   generalize kJ:jd5 l i=pt at *
   have nI:Hid (verI l aN i v=(decide (pt<v.tx)&&(decide (v.tx<=aN)&&(jbm v.ev&&(!v.gone || jdr l i v))))):=by simp only[Hid];rw[verI,kJ]
   clear kJ
   by_cases e1:v.tx<=pt
   ·have OC:¬pt<v.tx:=by omega
    have gq:=cell_regrown x0
    have ib:=cell_regrown x1
    have ic:=cell_regrown x2
    have ie:=cell_regrown x3
    have ig:=cell_regrown x4
    have ii:=cell_regrown x5
    have ij:=cell_regrown x6
    have ik:=cell_regrown x7
    have il:=cell_regrown z0
    have im:=cell_regrown z4
    have r1:decide (v.tx<=pt)=true:=dte e1
    go_wp2_with fail
    refine wp_region_quiet_below (by kernel_rfl) (by kernel_rfl) ?_
    repeat (first|go_big_quiet_step (fail)|quiet_step (fail))
    refine wpQuiet_nil ?_
    intro _ hw
    obtain⟨⟨dq,aQ⟩,gH⟩:=hw
    subst gH
    have aY:=below_regrown wz dq aQ
    have dU:=qtr dV aY
    have lX:=qtr gu aY
    clear aY dV gu dZ gq ib ic ie ig ii ij ik il im
    generalize grow (redrawn wz dq) aQ=wE at *
    obtain rfl:VB=false:=gM.out (by rw[nI.out];rw[dfe (show ¬pt<v.tx by omega)];rfl)
    go_wp2
    go_ret
    exact⟨rfl,dU⟩
   by_cases e2:aN<v.tx
   ·have OD:¬v.tx<=aN:=by omega
    have gq:=cell_regrown x0
    have ib:=cell_regrown x1
    have ic:=cell_regrown x2
    have ie:=cell_regrown x3
    have ig:=cell_regrown x4
    have ii:=cell_regrown x5
    have ij:=cell_regrown x6
    have ik:=cell_regrown x7
    have il:=cell_regrown z0
    have im:=cell_regrown z4
    have r1:decide (v.tx<=pt)=false:=dfe e1
    have r2:decide (aN<v.tx)=true:=dte e2
    go_wp2_with fail
    refine wp_region_quiet_below (by kernel_rfl) (by kernel_rfl) ?_
    repeat (first|go_big_quiet_step (fail)|quiet_step (fail))
    refine wpQuiet_nil ?_
    intro _ hw
    obtain⟨⟨dq,aQ⟩,gH⟩:=hw
    subst gH
    have aY:=below_regrown wz dq aQ
    have dU:=qtr dV aY
    have lX:=qtr gu aY
    clear aY dV gu dZ gq ib ic ie ig ii ij ik il im
    generalize grow (redrawn wz dq) aQ=wE at *
    obtain rfl:VB=false:=gM.out (by rw[nI.out];rw[dfe (show ¬v.tx<=aN by omega)];simp)
    go_wp2
    go_ret
    exact⟨rfl,dU⟩
   have IE:pt<v.tx:=by omega
   have IG:v.tx<=aN:=by omega
   have ju:Hid (verI l aN i v=(jbm v.ev&&(!v.gone || jdr l i v))):=by simp only[Hid];rw[nI.out,dte IE,dte IG];rfl
   clear nI
   rename Hid (verI l aN i v=(jbm v.ev&&(!v.gone || jdr l i v)))=>nI
   have Ee:jbm ⟨v.id,v.name,v.zone,v.wall,v.gap,v.fold⟩=jbm v.ev:=rfl
   rw[Ee]at dZ
   clear Ee
   cases e3:jbm v.ev
   case false=>
    rw[e3]at dZ
    have gq:=cell_regrown x0
    have ib:=cell_regrown x1
    have ic:=cell_regrown x2
    have ie:=cell_regrown x3
    have ig:=cell_regrown x4
    have ii:=cell_regrown x5
    have ij:=cell_regrown x6
    have ik:=cell_regrown x7
    have il:=cell_regrown z0
    have im:=cell_regrown z4
    have r1:decide (v.tx<=pt)=false:=dfe e1
    have r2:decide (aN<v.tx)=false:=dfe e2
    have cE:∀dd os,Cl _ _ (grow (redrawn wz dd) os) fun e w2=>e=.returned (.bool false)/\∃p:Regrown,w2=grow (redrawn wz p.d) p.os:=fun dd os=>Calls.regrown_of (dZ _)
    go_wp2_with fail
    refine wp_region_quiet_below (by kernel_rfl) (by kernel_rfl) ?_
    repeat (first|go_big_quiet_step ((go_at_call 35;exact cE _ _))|quiet_step ((go_at_call 35;exact cE _ _)))
    refine wpQuiet_nil ?_
    intro _ hw
    obtain⟨⟨dq,aQ⟩,gH⟩:=hw
    subst gH
    have aY:=below_regrown wz dq aQ
    have dU:=qtr dV aY
    have lX:=qtr gu aY
    clear aY dV gu dZ gq ib ic ie ig ii ij ik il im
    generalize grow (redrawn wz dq) aQ=wE at *
    obtain rfl:VB=false:=gM.out (by rw[nI.out];rw[e3];rfl)
    go_wp2
    go_ret
    exact⟨rfl,dU⟩
   rw[e3]at dZ
   have yT:Hid (verI l aN i v=(!v.gone || jdr l i v)):=by simp only[Hid];rw[nI.out,e3];rfl
   clear nI e3
   cases e4:v.gone
   case false=>
    have HG:Hid (verK l aN (i+1)=true):=lR.out (by rw[yT.out];rw[e4];rfl)
    rw[e4]at x1
    clear e4
    have gq:=cell_regrown x0
    have ib:=cell_regrown x1
    have ic:=cell_regrown x2
    have ie:=cell_regrown x3
    have ig:=cell_regrown x4
    have ii:=cell_regrown x5
    have ij:=cell_regrown x6
    have ik:=cell_regrown x7
    have il:=cell_regrown z0
    have im:=cell_regrown z4
    have r1:decide (v.tx<=pt)=false:=dfe e1
    have r2:decide (aN<v.tx)=false:=dfe e2
    have cE:∀dd os,Cl _ _ (grow (redrawn wz dd) os) fun e w2=>e=.returned (.bool true)/\∃p:Regrown,w2=grow (redrawn wz p.d) p.os:=fun dd os=>Calls.regrown_of (dZ _)
    go_wp2_with fail
    refine wp_region_quiet_below (by kernel_rfl) (by kernel_rfl) ?_
    repeat (first|go_big_quiet_step ((go_at_call 35;exact cE _ _))|quiet_step ((go_at_call 35;exact cE _ _)))
    refine wpQuiet_nil ?_
    intro _ hw
    obtain⟨⟨dq,aQ⟩,gH⟩:=hw
    subst gH
    have aY:=below_regrown wz dq aQ
    have dU:=qtr dV aY
    have lX:=qtr gu aY
    have xE:=gq dq aQ
    clear aY dV gu dZ gq ib ic ie ig ii ij ik il im
    generalize grow (redrawn wz dq) aQ=wE at *
    go_wp2
    go_roundw
    case rel=>exact⟨i+1,by omega,by go_num,by rw[oR.out],HG.out,lX⟩
    case measure=>simp[intOf];omega
   have xm:Hid (verI l aN i v=jdr l i v):=by simp only[Hid];rw[yT.out,e4];rfl
   rw[e4]at x1
   clear e4 yT
   cases kk with
   |none=>
    simp only[numI]
    have gq:=cell_regrown x0
    have ib:=cell_regrown x1
    have ic:=cell_regrown x2
    have ie:=cell_regrown x3
    have ig:=cell_regrown x4
    have ii:=cell_regrown x5
    have ij:=cell_regrown x6
    have ik:=cell_regrown x7
    have il:=cell_regrown z0
    have im:=cell_regrown z4
    have r1:decide (v.tx<=pt)=false:=dfe e1
    have r2:decide (aN<v.tx)=false:=dfe e2
    have cE:∀dd os,Cl _ _ (grow (redrawn wz dd) os) fun e w2=>e=.returned (.bool true)/\∃p:Regrown,w2=grow (redrawn wz p.d) p.os:=fun dd os=>Calls.regrown_of (dZ _)
    go_wp2_with fail
    refine wp_region_quiet_below (by kernel_rfl) (by kernel_rfl) ?_
    repeat (first|go_big_quiet_step ((go_at_call 35;exact cE _ _))|quiet_step ((go_at_call 35;exact cE _ _)))
    refine wpQuiet_nil ?_
    intro _ hw
    obtain⟨⟨dq,aQ⟩,gH⟩:=hw
    subst gH
    have aY:=below_regrown wz dq aQ
    have dU:=qtr dV aY
    have lX:=qtr gu aY
    clear aY dV gu dZ gq ib ic ie ig ii ij ik il im
    generalize grow (redrawn wz dq) aQ=wE at *
    obtain rfl:VB=false:=gM.out (by rw[xm.out];exact jty xg.out)
    go_wp2
    go_ret
    exact⟨rfl,dU⟩
   | some k=>
    simp only[numI]
    obtain⟨p9,⟨x,sF,hid⟩,_⟩:=jdc xg.out
    rw[List.length_take,HN.out]at p9
    have Kg:k<i:=by omega
    have qD:l[k]? =some x:=by rw[List.getElem?_take_of_lt Kg]at sF;exact sF
    have vN:(l.map VersionD.cs)[k]? =some x.cs:=by rw[lgm,qD];rfl
    obtain⟨b2,o2,zW,dY⟩:=iw.at (i:=k) vN
    injection zW with zW
    injection zW with eab1 eab2
    subst eab1 eab2
    have m1:wz.cell? (ad b (ob+k*8+1))=some (.bool x.gone):=dY 1 _ rfl
    have m2:wz.cell? (ad b (ob+k*8+2))=some (iv x.id):=dY 2 _ rfl
    have m3:wz.cell? (ad b (ob+k*8+3))=some (.string x.name):=dY 3 _ rfl
    have m4:wz.cell? (ad b (ob+k*8+4))=some (.string x.zone):=dY 4 _ rfl
    have m5:wz.cell? (ad b (ob+k*8+5))=some (iv x.wall):=dY 5 _ rfl
    have m6:wz.cell? (ad b (ob+k*8+6))=some (iv x.gap):=dY 6 _ rfl
    have m7:wz.cell? (ad b (ob+k*8+7))=some (iv x.fold):=dY 7 _ rfl
    have k0:¬(k:Int)<0:=by omega
    have k1:(0:Int)<=(k:Int):=by omega
    have k2:(k:Int)<(n:Int):=by omega
    clear dY vN qD p9 hid
    cases e5:x.gone
    case true=>
     obtain rfl:VB=false:=gM.out (by rw[xm.out];exact jtz xg.out sF e5)
     rw[e5]at m1
     clear e5 sF
     have gq:=cell_regrown x0
     have ib:=cell_regrown x1
     have ic:=cell_regrown x2
     have ie:=cell_regrown x3
     have ig:=cell_regrown x4
     have ii:=cell_regrown x5
     have ij:=cell_regrown x6
     have ik:=cell_regrown x7
     have il:=cell_regrown z0
     have im:=cell_regrown z4
     have vT:=cell_regrown m1
     have r1:decide (v.tx<=pt)=false:=dfe e1
     have r2:decide (aN<v.tx)=false:=dfe e2
     have cE:∀dd os,Cl _ _ (grow (redrawn wz dd) os) fun e w2=>e=.returned (.bool true)/\∃p:Regrown,w2=grow (redrawn wz p.d) p.os:=fun dd os=>Calls.regrown_of (dZ _)
     have r5:decide ((k:Int)<0)=false:=dfe k0
     go_wp2_with fail
     refine wp_region_quiet_below (by kernel_rfl) (by kernel_rfl) ?_
     repeat (first|go_big_quiet_step ((go_at_call 35;exact cE _ _))|quiet_step ((go_at_call 35;exact cE _ _)))
     refine wpQuiet_nil ?_
     intro _ hw
     obtain⟨⟨dq,aQ⟩,gH⟩:=hw
     subst gH
     have aY:=below_regrown wz dq aQ
     have dU:=qtr dV aY
     have lX:=qtr gu aY
     clear aY dV gu dZ gq ib ic ie ig ii ij ik il im vT
     generalize grow (redrawn wz dq) aQ=wE at *
     go_wp2
     go_ret
     exact⟨rfl,dU⟩
    have Eq:Hid (verI l aN i v=je9 x.ev v.ev):=by simp only[Hid];rw[xm.out];exact jz5 xg.out sF e5
    rw[e5]at m1
    clear e5 sF xm
    clear mH
    cases e6:je9 x.ev v.ev
    case false=>
     obtain rfl:VB=false:=gM.out (by rw[Eq.out];exact e6)
     have E6:=hid e6
     clear e6
     have gq:=cell_regrown x0
     have ib:=cell_regrown x1
     have ic:=cell_regrown x2
     have ie:=cell_regrown x3
     have ig:=cell_regrown x4
     have ii:=cell_regrown x5
     have ij:=cell_regrown x6
     have ik:=cell_regrown x7
     have il:=cell_regrown z0
     have im:=cell_regrown z4
     have vT:=cell_regrown m1
     have CU:=cell_regrown m2
     have CV:=cell_regrown m3
     have CW:=cell_regrown m4
     have CX:=cell_regrown m5
     have CY:=cell_regrown m6
     have CZ:=cell_regrown m7
     have r1:decide (v.tx<=pt)=false:=dfe e1
     have r2:decide (aN<v.tx)=false:=dfe e2
     have cE:∀dd os,Cl _ _ (grow (redrawn wz dd) os) fun e w2=>e=.returned (.bool true)/\∃p:Regrown,w2=grow (redrawn wz p.d) p.os:=fun dd os=>Calls.regrown_of (dZ _)
     have r5:decide ((k:Int)<0)=false:=dfe k0
     have vm:=fun w=>jil x.ev v.ev w
     simp only[E6.out]at vm
     simp only[VersionD.ev]at vm
     go_wp2_with fail
     refine wp_region_quiet_below (by kernel_rfl) (by kernel_rfl) ?_
     repeat (first|go_big_quiet_step ((go_at_call 35;exact cE _ _))|quiet_step ((go_at_call 35;exact cE _ _)))
     refine wpQuiet_nil ?_
     intro _ hw
     obtain⟨⟨dq,aQ⟩,gH⟩:=hw
     subst gH
     have aY:=below_regrown wz dq aQ
     have dU:=qtr dV aY
     have lX:=qtr gu aY
     clear aY dV gu dZ gq ib ic ie ig ii ij ik il im vT CU CV CW CX CY CZ
     generalize grow (redrawn wz dq) aQ=wE at *
     go_wp2
     go_ret
     exact⟨rfl,dU⟩
    have HG:Hid (verK l aN (i+1)=true):=lR.out (by rw[Eq.out];exact e6)
    have E6:=hid e6
    clear e6
    have gq:=cell_regrown x0
    have ib:=cell_regrown x1
    have ic:=cell_regrown x2
    have ie:=cell_regrown x3
    have ig:=cell_regrown x4
    have ii:=cell_regrown x5
    have ij:=cell_regrown x6
    have ik:=cell_regrown x7
    have il:=cell_regrown z0
    have im:=cell_regrown z4
    have vT:=cell_regrown m1
    have CU:=cell_regrown m2
    have CV:=cell_regrown m3
    have CW:=cell_regrown m4
    have CX:=cell_regrown m5
    have CY:=cell_regrown m6
    have CZ:=cell_regrown m7
    have r1:decide (v.tx<=pt)=false:=dfe e1
    have r2:decide (aN<v.tx)=false:=dfe e2
    have cE:∀dd os,Cl _ _ (grow (redrawn wz dd) os) fun e w2=>e=.returned (.bool true)/\∃p:Regrown,w2=grow (redrawn wz p.d) p.os:=fun dd os=>Calls.regrown_of (dZ _)
    have r5:decide ((k:Int)<0)=false:=dfe k0
    have vm:=fun w=>jil x.ev v.ev w
    simp only[E6.out]at vm
    simp only[VersionD.ev]at vm
    go_wp2_with fail
    refine wp_region_quiet_below (by kernel_rfl) (by kernel_rfl) ?_
    repeat (first|go_big_quiet_step ((go_at_call 35;exact cE _ _))|quiet_step ((go_at_call 35;exact cE _ _)))
    refine wpQuiet_nil ?_
    intro _ hw
    obtain⟨⟨dq,aQ⟩,gH⟩:=hw
    subst gH
    have aY:=below_regrown wz dq aQ
    have dU:=qtr dV aY
    have lX:=qtr gu aY
    have xE:=gq dq aQ
    clear aY dV gu dZ gq ib ic ie ig ii ij ik il im vT CU CV CW CX CY CZ
    generalize grow (redrawn wz dq) aQ=wE at *
    go_wp2
    go_roundw
    case rel=>exact⟨i+1,by omega,by go_num,by rw[oR.out],HG.out,lX⟩
    case measure=>simp[intOf];omega
  ·have hE:i=n:=by omega
   subst hE
   have a1:¬(i:Int)<(i:Int):=by omega
   obtain rfl:VB=true:=by rw[HV.out];exact HK.out
   clear iu
   go_wp2
   go_ret
   exact⟨rfl,cR⟩
def txI(l:List VersionD)(aN:Int)(i:Nat)(v:VersionD):Bool:=decide (jd5 l i<v.tx)&&(decide (v.tx<=aN)&&jbm v.ev)
def txK(l:List VersionD)(aN:Int):Nat->Bool
 |0=>true
 |k+1=>txK l aN k&&(match l[k]? with
  |some v=>txI l aN k v
  |none=>true)
def txB(l:List VersionD)(aN:Int):Bool:=decide (l.length<=60)&&txK l aN l.length
theorem juu{l:List VersionD}{aN:Int}{k:Nat}{v:VersionD}(hv:l[k]? =some v)(h:txI l aN k v=false):∀{n:Nat},k<n->txK l aN n=false:=by
 intro n
 induction n with
 |zero=>intro hn;omega
 |succ n ih=>
  intro hn
  rw[txK]
  by_cases e:k=n
  ·subst e;rw[hv];simp[h]
  ·rw[ih (by omega)];rfl
theorem j1j{l:List VersionD}{aN:Int}{k:Nat}{v:VersionD}(hv:l[k]? =some v)(h:txI l aN k v=true)(hk:txK l aN k=true):txK l aN (k+1)=true:=by rw[txK,hk,hv];simp[h]
theorem jyi{l:List VersionD}{aN:Int}(h:¬l.length<=60):txB l aN=false:=by unfold txB;rw[dfe h];rfl
theorem j24{l:List VersionD}{aN:Int}(h:l.length<=60):txB l aN=txK l aN l.length:=by unfold txB;rw[dte h];rfl
def jdq(l:List VersionD):Nat->Bool
 |0=>true
 |k+1=>jdq l k&&(match l[k]? with
  |some v=> !v.gone || jdr l k v
  |none=>true)
theorem juo(l:List VersionD)(aN:Int):∀k,verK l aN k=(txK l aN k&&jdq l k)
 |0=>rfl
 |k+1=>by
  rw[verK,txK,jdq,juo l aN k]
  cases l[k]? with
  |none=>simp
  |some v=>simp only[verI,txI];cases txK l aN k<;>cases jdq l k<;>cases decide (jd5 l k<v.tx)<;>cases decide (v.tx<=aN)<;>cases jbm v.ev<;>simp
theorem jlh(l:List VersionD)(aN:Int):verB l aN=(txB l aN&&jdq l l.length):=by unfold verB txB;rw[juo];cases decide (l.length<=60)<;>simp
theorem jfv(l:List VersionD)(aN cur:Int)(r0 r1 r2 r3 r4 r5 va ia:Option Addr)(p0 q0 p1 q1 p2 q2 p3 q3 p4 q4 p5 q5 n cv ni ci:Nat)(w:World)(hA:Za w va 8 (l.map VersionD.cs))(gW:∀v∈l,v.ok)(hn:l.length=n)(hl:n<=1048576):
  Cl 45 #[.agg #[iv aN,.slice r0 p0 q0,.slice r1 p1 q1,.slice r2 p2 q2,.slice r3 p3 q3,.slice r4 p4 q4,.slice r5 p5 q5,iv cur,.slice va n cv,.slice ia ni ci]] w fun e w'=>e=.returned (.bool (txB l aN))/\Bw w w':=by
 have ag:Bw w (w.alloc (.cells #[iv aN,.slice r0 p0 q0,.slice r1 p1 q1,.slice r2 p2 q2,.slice r3 p3 q3,.slice r4 p4 q4,.slice r5 p5 q5,iv cur,.slice va n cv,.slice ia ni ci] 41)):=qal _ _
 by_cases tP:60<n
 ·rw[jyi (by omega)]
  have AL:(60:Int)<(n:Int):=by omega
  unfold Cl;go_in
  go_wp2
  go_ret
  exact⟨rfl,ag⟩
 have AL:¬(60:Int)<(n:Int):=by omega
 obtain⟨VB,qn⟩:=qeb (txB l aN)
 have HV:Hid (VB=txK l aN n):=by simp only[Hid];rw[<- qn,j24 (by omega),hn]
 rw[qn]
 clear qn
 have HN:=hid hn
 have HO:=hid gW
 have s0:(w.alloc (.cells #[iv aN,.slice r0 p0 q0,.slice r1 p1 q1,.slice r2 p2 q2,.slice r3 p3 q3,.slice r4 p4 q4,.slice r5 p5 q5,iv cur,.slice va n cv,.slice ia ni ci] 41)).cell? (ad w.heap.size 0)=some (iv aN):=by simp[go_sem]
 have eK:=hA.below ag
 clear hn gW hA
 unfold Cl;go_in
 go_wp2
 generalize (w.alloc (.cells #[iv aN,.slice r0 p0 q0,.slice r1 p1 q1,.slice r2 p2 q2,.slice r3 p3 q3,.slice r4 p4 q4,.slice r5 p5 q5,iv cur,.slice va n cv,.slice ia ni ci] 41))=w0 at *
 go_loopw [3,13] (fun t s wr=>∃i:Nat,i<=n/\s=iv i/\t=iv (jd5 l i)/\Hid (txK l aN i=true)/\Bw w0 wr) (fun _ s _=>n-(intOf s).toNat)
 case atStart=>exact⟨0,by omega,rfl,rfl,rfl,brf _ _⟩
 case round=>
  obtain⟨wa,dS⟩:=qea wr
  subst dS
  obtain⟨i,hin,rfl,rfl,HK,aK⟩:=hrel
  have t0:=jaa aK s0
  have iu:=eK.below aK
  have cR:=qtr ag aK
  clear s0 eK ag
  by_cases hlt:i<n
  ·have a1:(i:Int)<(n:Int):=by omega
   obtain⟨v,hv⟩:∃v,l[i]? =some v:=⟨_,lgg (by have:=HN.out;omega)⟩
   have ap:(l.map VersionD.cs)[i]? =some v.cs:=by rw[lgm,hv];rfl
   obtain⟨b,ob,rfl,hc⟩:=iu.at (i:=i) ap
   have c0:wa.cell? (ad b (ob+i*8))=some (iv v.tx):=hc 0 _ rfl
   have c1:wa.cell? (ad b (ob+i*8+1))=some (.bool v.gone):=hc 1 _ rfl
   have c2:wa.cell? (ad b (ob+i*8+2))=some (iv v.id):=hc 2 _ rfl
   have c3:wa.cell? (ad b (ob+i*8+3))=some (.string v.name):=hc 3 _ rfl
   have c4:wa.cell? (ad b (ob+i*8+4))=some (.string v.zone):=hc 4 _ rfl
   have c5:wa.cell? (ad b (ob+i*8+5))=some (iv v.wall):=hc 5 _ rfl
   have c6:wa.cell? (ad b (ob+i*8+6))=some (iv v.gap):=hc 6 _ rfl
   have c7:wa.cell? (ad b (ob+i*8+7))=some (iv v.fold):=hc 7 _ rfl
   clear hc ap
   have sM:=HO.out v (lmg hv)
   have gM:Hid (txI l aN i v=false->VB=false):=fun h1=>by rw[HV.out];exact juu hv h1 (by omega)
   have lR:Hid (txI l aN i v=true->txK l aN (i+1)=true):=fun h=>j1j hv h HK.out
   have oR:Hid (jd5 l (i+1)=v.tx):=by simp only[Hid];rw[jd5,hv]
   have dZ:=fun w=>jjd v.ev w sM.1 sM.2
   simp only[EventD.v,VersionD.ev]at dZ
   have JW:=qbl t0
   have az:=Nat.ne_of_lt JW
   clear hv sM iu
   obtain⟨pt,kJ⟩:=qeb (jd5 l i)
   have rR:Hid (txI l aN i v=(decide (pt<v.tx)&&(decide (v.tx<=aN)&&jbm v.ev))):=by simp only[Hid,txI];rw[kJ]
   rw[kJ]
   clear kJ
   have iy:∀o,Bw w (wa.alloc o):=fun o=>cR.alloc cR.size _
   have hsz:=cR.size
   by_cases e1:v.tx<=pt
   ·obtain rfl:VB=false:=gM.out (by rw[rR.out,dfe (by omega)];rfl)
    go_wp2
    go_ret
    exact⟨rfl,iy _⟩
   have nH:Hid (txI l aN i v=(decide (v.tx<=aN)&&jbm v.ev)):=by simp only[Hid];rw[rR.out,dte (by omega)];rfl
   clear rR
   by_cases e2:aN<v.tx
   ·obtain rfl:VB=false:=gM.out (by rw[nH.out,dfe (by omega)];rfl)
    go_wp2
    go_ret
    exact⟨rfl,iy _⟩
   have ju:Hid (txI l aN i v=jbm v.ev):=by simp only[Hid];rw[nH.out,dte (by omega)];rfl
   clear nH
   simp only[VersionD.ev]at ju
   obtain⟨eb,Fb⟩:=qeb (jbm ⟨v.id,v.name,v.zone,v.wall,v.gap,v.fold⟩)
   rw[Fb]at dZ ju
   clear Fb
   cases eb
   ·obtain rfl:VB=false:=gM.out ju.out
    go_wp2_with fail
    refine(dZ _).mono ?_
    rintro e wx ⟨rfl,bC⟩
    go_wp2
    go_ret
    exact⟨rfl,(iy _).trans (bC.mono (by simp;omega))⟩
   have HG:Hid (txK l aN (i+1)=true):=lR.out ju.out
   clear ju gM lR
   go_wp2_with fail
   refine(dZ _).mono ?_
   rintro e wx ⟨rfl,bC⟩
   have xv:wx.cell? (ad wa.heap.size 0)=some (iv v.tx):=jaa bC (by simp[go_sem])
   have fS:=(aK.alloc aK.size _).trans (bC.mono (by simp;have:=aK.size;omega))
   clear bC
   go_wp2
   go_roundw
   case rel=>exact⟨i+1,by omega,by go_num,by rw[oR.out],HG,fS⟩
   case measure=>simp[intOf];omega
  ·obtain rfl:i=n:=by omega
   have HF:Hid (VB=true):=by simp only[Hid];rw[HV.out];exact HK.out
   go_wp2
   go_ret
   exact⟨ret_bool HF.out.symm,cR⟩
section
open Go.RowKit Go.ChangeMaps Go.MapKept
def jcy:Value->Option (DataW EventD × List MemPlace)
 |.agg ⟨[.int .i64 a,.string b,.string c,.int .i64 d,.int .i64 e,.int .i64 f]⟩=>some (.held ⟨a,b,c,d,e,f⟩,[])
 |_=>none
theorem jo4(e:EventD):jcy e.v=some (.held e,[]):=by cases e;rfl
theorem jde{v:Value}{z:DataW EventD × List MemPlace}(h:jcy v=some z):∃e:EventD,v=e.v/\z=(.held e,[]):=by
 unfold jcy at h
 split at h
 ·cases h;exact⟨_,rfl,rfl⟩
 ·cases h
def MapV(D:DataW EventD)(f:Int->Option EventD):Prop:=∀id e,(f id=some e->Maps.has D (.int .i64 id)=true/\∀z,D.atKey (.int .i64 id) z=.held e)/\(f id=none->Maps.has D (.int .i64 id)=false)
structure Zm(w:World)(b n:Nat)(f:Int->Option EventD):Prop where
 own:∃D,w.ownsMap Tryz.prog 2 jcy b n D/\MapV D f
def putF(f:Int->Option EventD)(e:EventD)(id:Int):Option EventD:=if e.id=id then some e else f id
def delF(f:Int->Option EventD)(i:Int)(id:Int):Option EventD:=if i=id then none else f id
theorem Zm.made(w:World):Zm (w.alloc (.map #[] 0)) w.heap.size 0 (fun _=>none):=⟨_,World.ownsMap_made w _ _ _,fun _ _=>⟨fun h=>by(cases h),fun _=>rfl⟩⟩
theorem Zm.lt{w:World}{b n:Nat}{f:Int->Option EventD}(h:Zm w b n f):b<w.heap.size:=by
 obtain⟨D,h1,_⟩:=h.own
 exact h1.lt
theorem Zm.kept{w w':World}{b n:Nat}{f:Int->Option EventD}{row:Option Nat}(h:Zm w b n f)(hg:w.grownBy w' row)(az:some b≠row):Zm w' b n f:=by
 obtain⟨D,h1,h2⟩:=h.own
 exact⟨D,h1.kept hg az,h2⟩
theorem Zm.below{w w':World}{b n:Nat}{f:Int->Option EventD}(h:Zm w b n f)(hb:Bw w w'):Zm w' b n f:=h.kept (row:=none) ⟨hb.os,hb.tape,hb.output,hb.size,fun k hk _=>hb.block k hk⟩ (by simp)
theorem Zm.alloc{w:World}{b n:Nat}{f:Int->Option EventD}(h:Zm w b n f)(o:Obj):Zm (w.alloc o) b n f:=by
 obtain⟨D,h1,h2⟩:=h.own
 exact⟨D,h1.alloc o,h2⟩
theorem jwj{id:Int}(h:1<=id/\id<=1000000):(Lit.int .i64 id).wf=true:=by
 have h1:IntKind.min .i64= -9223372036854775808:=rfl
 have h2:IntKind.max .i64=9223372036854775807:=rfl
 show(decide (IntKind.min .i64<=id)&&decide (id<=IntKind.max .i64))=true
 rw[h1,h2,dte (by omega),dte (by omega)]
 rfl
theorem juf(w:World):(zeroValue 54).run Tryz.prog w=.ok (EventD.v ⟨0,⟨#[]⟩,⟨#[]⟩,0,0,0⟩) w:=by kernel_rfl
theorem mapT:Tryz.prog.underlying 105=some (.map 2 54):=by kernel_rfl
theorem keyT:Tryz.prog.underlying 2=some (.int .i64):=by kernel_rfl
theorem Zm.look{w:World}{b n:Nat}{f:Int->Option EventD}(h:Zm w b n f){id:Int}(iK:1<=id/\id<=1000000):∃e:EventD,(Instr.lookup 105 (.map (some b)) (iv id) true).run Tryz.prog w=.ok (.tuple #[e.v,.bool (f id).isSome]) w/\∀x,f id=some x->e=x:=by
 obtain⟨D,h1,h2⟩:=h.own
 obtain⟨v,ps,hr,hv⟩:=h1.look_ok (Maps.int_keyed keyT) mapT (juf w) (jo4 _) (Maps.keyOf_int_mk keyT (jwj iK))
 obtain⟨e,rfl,he⟩:=jde hv
 cases hf:f id with
 |none=>exact⟨e,by rw[hr,(h2 id e).2 hf];rfl,fun x hx=>by cases hx⟩
 |some y=>
  obtain⟨a,c⟩:=(h2 id y).1 hf
  refine⟨e,by rw[hr,a];rfl,fun x hx=>?_⟩
  obtain rfl:=osi hx
  rw[c]at he
  have h3:=congrArg Prod.fst he
  simp only[DataW.held.injEq]at h3
  exact h3.symm
theorem Zm.drop{w:World}{b n:Nat}{f:Int->Option EventD}(h:Zm w b n f){id:Int}(iK:1<=id/\id<=1000000)(ty:TypeId):∃w',(Builtin.delete_ #[105,2] ty #[.map (some b),iv id]).run Tryz.prog w=.ok (.tuple #[]) w'/\Zm w' b n (delF f id)/\w.mapTurned w' b:=by
 obtain⟨D,h1,h2⟩:=h.own
 obtain⟨w',hr,ho,ht⟩:=h1.drop (Maps.int_keyed keyT) mapT (Maps.keyOf_int_mk keyT (jwj iK)) ty
 refine⟨w',hr,⟨_,ho,fun i e=>?_⟩,ht⟩
 unfold delF
 by_cases hi:id=i
 ·subst hi
  rw[if_pos rfl]
  exact⟨fun h=>by(cases h),fun _=>Maps.has_del_same⟩
 ·rw[if_neg hi]
  have az:Lit.int .i64 i≠Lit.int .i64 id:=fun h=>hi (by simp only[Lit.int.injEq,true_and]at h;exact h.symm)
  obtain⟨a,c⟩:=h2 i e
  exact⟨fun h=>⟨by rw[Maps.has_del_other az];exact(a h).1,fun z=>by rw[Maps.atKey_del_other az];exact(a h).2 z⟩,fun h=>by rw[Maps.has_del_other az];exact c h⟩
theorem Zm.store{w:World}{b n:Nat}{f:Int->Option EventD}(h:Zm w b n f)(hn:n<maxLen)(e:EventD)(iK:1<=e.id/\e.id<=1000000):∃w',(Instr.mapUpdate 105 (.map (some b)) (iv e.id) e.v).run Tryz.prog w=.ok () w'/\Zm w' b (n+1) (putF f e)/\w.mapTurned w' b:=by
 obtain⟨D,h1,h2⟩:=h.own
 have hM:=h1.isMap
 have od:WideAt.IsKeyLit (.int .i64 e.id):=trivial
 obtain⟨w',hr,ho,ht⟩:=h1.store (Maps.int_keyed keyT) mapT hn (Maps.keyOf_int_mk keyT (jwj iK)) (jo4 e)
 refine⟨w',hr,⟨_,ho,fun i x=>?_⟩,ht⟩
 unfold putF
 by_cases hi:e.id=i
 ·subst hi
  rw[if_pos rfl]
  exact⟨fun h=>⟨Maps.has_put_same hM od _,fun z=>by(cases h;exact Maps.atKey_put_same hM od _ _)⟩,fun h=>by(cases h)⟩
 ·rw[if_neg hi]
  have az:Lit.int .i64 i≠Lit.int .i64 e.id:=fun h=>hi (by simp only[Lit.int.injEq,true_and]at h;exact h.symm)
  obtain⟨a,c⟩:=h2 i x
  exact⟨fun h=>⟨by rw[Maps.has_put_other az];exact(a h).1,fun z=>by rw[Maps.atKey_put_other az];exact(a h).2 z⟩,fun h=>by rw[Maps.has_put_other az];exact c h⟩
end
section
open Go.RowKit Go.ChangeMaps Go.MapKept
def jyk(f:Int->Option EventD)(v:VersionD):Bool:= !v.gone || (match f v.id with
 |some x=>je9 x v.ev
 |none=>false)
def jyj(f:Int->Option EventD)(v:VersionD):Int->Option EventD:=if v.gone=true then delF f v.id else putF f v.ev
theorem jst(l:List VersionD)(i:Nat){v:VersionD}(hv:l[i]? =some v):jyj (jch (l.take i)) v=jch (l.take (i+1)):=by
 funext id
 rw[List.take_add_one,hv]
 simp only[Option.toList]
 rw[jtf]
 unfold jyj
 cases v.gone
 ·simp only[Bool.false_eq_true,if_false];rfl
 ·simp only[if_true];rfl
theorem jsu(l:List VersionD)(i:Nat)(v:VersionD):jyk (jch (l.take i)) v=(!v.gone || jdr l i v):=rfl
theorem jvj{a b:EventD}(h1:a.id=b.id)(h2:a.name.toList=b.name.toList)(h3:a.zone.toList=b.zone.toList)(h4:a.wall=b.wall)(h5:a.gap=b.gap)(h6:a.fold=b.fold):je9 a b=true:=by
 unfold je9
 rw[dte h1,dte h4,dte h5,dte h6,h2,h3]
 simp
theorem jys{a b:EventD}(h:a.id=b.id->a.name.toList=b.name.toList->a.zone.toList=b.zone.toList->a.wall=b.wall->a.gap=b.gap->a.fold=b.fold->False):je9 a b=false:=by
 cases hs:je9 a b
 ·rfl
 ·unfold je9 at hs
  simp only[bat]at hs
  obtain⟨h1,h2,h3,h4,h5,h6⟩:=hs
  exact(h (odt h1) (eq_of_beq h2) (eq_of_beq h3) (odt h4) (odt h5) (odt h6)).elim
theorem jou{w w1 w2:World}{b:Nat}(h1:w.grownBy w1 none)(h2:w1.mapTurned w2 b):w.grownBy w2 (some b):=(h1.but _).andThen h2.grown (fun _ h=>.inr h)
theorem jwt(v:VersionD)(b n:Nat)(f:Int->Option EventD)(w:World)(h:Zm w b n f)(hn:n<maxLen)(iK:1<=v.id/\v.id<=1000000):
  Cl 78 #[.map (some b),v.v] w fun e w'=>e=.returned (.bool (jyk f v))/\Zm w' b (n+1) (jyj f v)/\w.grownBy w' (some b):=by
 obtain⟨tx,gone,id,name,zone,wall,gap,fold⟩:=v
 simp only[VersionD.v]at *
 have mH:=fun a b w=>jxh a b w
 have xZ:=fun op x y v1 v2 w=>jji op x y v1 v2 w
 have dD:=h.alloc (.cells #[iv tx,.bool gone,iv id,.string name,.string zone,iv wall,iv gap,iv fold] 87)
 obtain⟨x,gh,hx⟩:=dD.look iK
 have gR:=dD.alloc (.cells #[iv x.id,.string x.name,.string x.zone,iv x.wall,iv x.gap,iv x.fold] 54)
 have cQ:w.grownBy ((w.alloc (.cells #[iv tx,.bool gone,iv id,.string name,.string zone,iv wall,iv gap,iv fold] 87)).alloc (.cells #[iv x.id,.string x.name,.string x.zone,iv x.wall,iv x.gap,iv x.fold] 54)) none:=(World.grownBy_alloc w _ none).andThen (World.grownBy_alloc _ _ none) (fun _ h=>.inr h)
 simp only[EventD.v]at gh
 have hlt:=h.lt
 have HX:=hid hx
 clear hx
 have HT:Hid (jyk f ⟨tx,true,id,name,zone,wall,gap,fold⟩=((f id).isSome&&je9 x ⟨id,name,zone,wall,gap,fold⟩)):=by
  simp only[Hid,jyk]
  cases hf:f id with
  |none=>rfl
  |some y=>rw[HX.out y hf];rfl
 clear HX
 cases gone
 ·obtain⟨w2,jk,gS,eH⟩:=gR.store hn ⟨id,name,zone,wall,gap,fold⟩ iK
  simp only[EventD.v]at jk
  have HE:=hid gS
  have HG:Hid (w.grownBy w2 (some b)):=jou cQ eH
  clear HT gS eH cQ gR dD
  unfold Cl;go_in
  go_wp2
  go_ret
  exact⟨rfl,HE.out,HG.out⟩
 ·obtain⟨w2,jk,gS,eH⟩:=gR.drop iK 0
  have HE:Hid (Zm w2 b (n+1) (jyj f ⟨tx,true,id,name,zone,wall,gap,fold⟩)):=by
   obtain⟨D,d1,d2⟩:=gS.own
   exact⟨D,d1.mono (by omega),d2⟩
  have HG:Hid (w.grownBy w2 (some b)):=jou cQ eH
  have bg:some w.heap.size≠some b:=by simp;omega
  have hb1:some (w.heap.size+1)≠some b:=by simp;omega
  have v2:w2.cell? (ad w.heap.size 2)=some (iv id):=eH.grown.cell (by simp[go_sem]) bg
  have v3:w2.cell? (ad w.heap.size 3)=some (.string name):=eH.grown.cell (by simp[go_sem]) bg
  have v4:w2.cell? (ad w.heap.size 4)=some (.string zone):=eH.grown.cell (by simp[go_sem]) bg
  have v5:w2.cell? (ad w.heap.size 5)=some (iv wall):=eH.grown.cell (by simp[go_sem]) bg
  have v6:w2.cell? (ad w.heap.size 6)=some (iv gap):=eH.grown.cell (by simp[go_sem]) bg
  have v7:w2.cell? (ad w.heap.size 7)=some (iv fold):=eH.grown.cell (by simp[go_sem]) bg
  have x0:w2.cell? (ad (w.heap.size+1) 0)=some (iv x.id):=eH.grown.cell (by simp[go_sem]) hb1
  have x1:w2.cell? (ad (w.heap.size+1) 1)=some (.string x.name):=eH.grown.cell (by simp[go_sem]) hb1
  have x2:w2.cell? (ad (w.heap.size+1) 2)=some (.string x.zone):=eH.grown.cell (by simp[go_sem]) hb1
  have x3:w2.cell? (ad (w.heap.size+1) 3)=some (iv x.wall):=eH.grown.cell (by simp[go_sem]) hb1
  have x4:w2.cell? (ad (w.heap.size+1) 4)=some (iv x.gap):=eH.grown.cell (by simp[go_sem]) hb1
  have x5:w2.cell? (ad (w.heap.size+1) 5)=some (iv x.fold):=eH.grown.cell (by simp[go_sem]) hb1
  have HR:=hid HT
  clear gS eH cQ gR dD HT
  cases hfs:(f id).isSome
  ·rw[hfs]at HR gh
   clear hfs
   unfold Cl;go_in
   go_wp2
   go_ret
   exact⟨ret_bool (by rw[HR.out];rfl),HE.out,HG.out⟩
  ·rw[hfs]at HR gh
   clear hfs
   have hq:=mH x ⟨id,name,zone,wall,gap,fold⟩ w2
   clear mH
   dsimp only at hq
   unfold Cl;go_in
   go_wp2
   all_goals go_ret
   all_goals exact⟨ret_bool (by rw[HR.out,Bool.true_and];first|exact(jvj (by assumption) (by assumption) (by assumption) (by assumption) (by assumption) (by assumption)).symm|exact(jys (fun _ _ _ _ _ _=>by contradiction)).symm),HE.out,HG.out⟩
end
section
open Go.RowKit Go.ChangeMaps Go.MapKept
theorem jz4{l:List VersionD}{k:Nat}{v:VersionD}(hv:l[k]? =some v)(h:(!v.gone || jdr l k v)=false):∀{n:Nat},k<n->jdq l n=false:=by
 intro n
 induction n with
 |zero=>intro hn;omega
 |succ n ih=>
  intro hn
  rw[jdq]
  by_cases e:k=n
  ·subst e;rw[hv];simp only;rw[h];simp
  ·rw[ih (by omega)];rfl
theorem jw2{l:List VersionD}{k:Nat}{v:VersionD}(hv:l[k]? =some v)(h:(!v.gone || jdr l k v)=true)(hk:jdq l k=true):jdq l (k+1)=true:=by rw[jdq,hk,hv];simp only;rw[h];rfl
structure LiveP(w:World)(l:List VersionD)(e:Ending)(w':World):Prop where
 bel:Bw w w'
 end_:(jdq l l.length=true/\e=.returned (.tuple #[.map (some w.heap.size),.bool true])/\Zm w' w.heap.size l.length (jch l))\/(jdq l l.length=false/\e=.returned (.tuple #[.map none,.bool false]))
theorem jqn(l:List VersionD)(a:Option Addr)(n cap:Nat)(w:World)(hA:Za w a 8 (l.map VersionD.cs))(iK:∀v∈l,1<=v.id/\v.id<=1000000)(hn:l.length=n)(hl:n<=1048576):
  Cl 46 #[.slice a n cap] w (LiveP w l):=by
 have ag:Bw w (w.alloc (.map #[] 0)):=qal _ _
 have dD:=Zm.made w
 have HN:=hid hn
 have HI:=hid iK
 clear hn iK
 have gi:=@run_makeMap Tryz.prog
 unfold Cl;go_in
 go_wp2
 go_loopw [10] (fun s wr=>∃i:Nat,i<=n/\s=iv i/\Hid (jdq l i=true)/\Hid (Zm wr w.heap.size i (jch (l.take i)))/\Bw w wr) (fun s _=>n-(intOf s).toNat)
 case atStart=>exact⟨0,by omega,rfl,rfl,dD,ag⟩
 case round=>
  obtain⟨wa,dS⟩:=qea wr
  subst dS
  obtain⟨i,hin,rfl,HK,HM,aK⟩:=hrel
  have iu:Za wa a 8 (l.map VersionD.cs):=hA.below aK
  clear ag dD
  by_cases hlt:i<n
  ·have a1:(i:Int)<(n:Int):=by omega
   obtain⟨v,hv⟩:∃v,l[i]? =some v:=⟨_,lgg (by have:=HN.out;omega)⟩
   have ap:(l.map VersionD.cs)[i]? =some v.cs:=by rw[lgm,hv];rfl
   obtain⟨b,ob,rfl,hc⟩:=iu.at (i:=i) ap
   have c0:wa.cell? (ad b (ob+i*8))=some (iv v.tx):=hc 0 _ rfl
   have c1:wa.cell? (ad b (ob+i*8+1))=some (.bool v.gone):=hc 1 _ rfl
   have c2:wa.cell? (ad b (ob+i*8+2))=some (iv v.id):=hc 2 _ rfl
   have c3:wa.cell? (ad b (ob+i*8+3))=some (.string v.name):=hc 3 _ rfl
   have c4:wa.cell? (ad b (ob+i*8+4))=some (.string v.zone):=hc 4 _ rfl
   have c5:wa.cell? (ad b (ob+i*8+5))=some (iv v.wall):=hc 5 _ rfl
   have c6:wa.cell? (ad b (ob+i*8+6))=some (iv v.gap):=hc 6 _ rfl
   have c7:wa.cell? (ad b (ob+i*8+7))=some (iv v.fold):=hc 7 _ rfl
   clear hc ap
   have Fj:=HM.out.alloc (.cells #[iv v.tx,.bool v.gone,iv v.id,.string v.name,.string v.zone,iv v.wall,iv v.gap,iv v.fold] 87)
   have hT:=jwt v w.heap.size i _ _ Fj (by unfold maxLen;omega) (HI.out v (lmg hv))
   rw[jst l i hv,jsu]at hT
   simp only[VersionD.v]at hT
   have gM:Hid ((!v.gone || jdr l i v)=false->jdq l l.length=false):=fun h=>jz4 hv h (by rw[HN.out];exact hlt)
   have lR:Hid ((!v.gone || jdr l i v)=true->jdq l (i+1)=true):=fun h=>jw2 hv h HK.out
   generalize (!v.gone || jdr l i v)=tb at *
   clear Fj hv
   cases tb
   ·have HF:Hid (jdq l l.length=false):=gM.out rfl
    clear gM lR
    go_wp2_with fail
    refine hT.mono ?_
    rintro e w2 ⟨rfl,gS,bR⟩
    have an:=(aK.alloc aK.size _).grown bR (by have:=aK.size;simp;omega) (fun k hk=>by cases hk;exact nlr _)
    clear gS bR
    go_wp2
    go_ret2
    exact⟨an,.inr ⟨HF.out,rfl⟩⟩
   ·have HF:Hid (jdq l (i+1)=true):=lR.out rfl
    clear gM lR
    go_wp2_with fail
    refine hT.mono ?_
    rintro e w2 ⟨rfl,gS,bR⟩
    have an:=(aK.alloc aK.size _).grown bR (by have:=aK.size;simp;omega) (fun k hk=>by cases hk;exact nlr _)
    have yJ:=hid gS
    clear gS bR
    go_wp2
    go_roundw
    case rel=>exact⟨i+1,by omega,by go_num,HF,yJ,an⟩
    case measure=>simp[intOf];omega
  ·obtain rfl:i=n:=by omega
   have HF:Hid (jdq l l.length=true/\Zm wa w.heap.size l.length (jch l)):=by
    have h:=HM.out
    rw[List.take_of_length_le (by rw[HN.out];exact nlr _), <- HN.out]at h
    exact⟨by rw[HN.out];exact HK.out,h⟩
   go_wp2
   go_ret2
   exact⟨aK,.inl ⟨HF.out.1,rfl,HF.out.2⟩⟩
