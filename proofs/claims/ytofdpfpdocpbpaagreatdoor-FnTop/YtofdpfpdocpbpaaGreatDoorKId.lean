/- Packed. -/
import Derived.Test.YtofdpfpdocpbpaaGreatDoorKGd
import Derived.Test.YtofdpfpdocpbpaaGreatDoorKHd
import Derived.Test.YtofdpfpdocpbpaaGreatDoorTimePd
import Derived.Deep.QuietTactic
import Derived.Test.YtofdpfpdocpbpaaGreatDoorKAd
import Derived.Test.YtofdpfpdocpbpaaGreatDoorJAd
import Derived.Test.YtofdpfpdocpbpaaGreatDoorDDd
import Derived.Test.YtofdpfpdocpbpaaGreatDoorTabPd
import Derived.Test.YtofdpfpdocpbpaaGreatDoorSAd
import Derived.Test.YtofdpfpdocpbpaaGreatDoorShelfK
set_option maxRecDepth 20000
set_option maxHeartbeats 20000000
set_option linter.unusedSimpArgs false
namespace Go.Proofs.YtofdpfpdocpbpaaGreatDoor
section
open Go.RowKit
theorem Zb.belw{s:Za}{w00 w:World}{x:Option Addr}{K:Nat}(h:Zb s w00 w x K):Below w00.heap.size w00 w:=by
 obtain⟨bb,lb,n,a1,a2,a3,a4,a5,a6,a8,a9,c1,c2,c3,c4,c5,c6,c8,c9,nm,wm,k,B,a,b,c,d,e,f,ca,cb,cc,cd,ce,cf,hx,hM,hn,hBk,hkk,hne,hV⟩:=h.ex
 exact hBk.bel
theorem Zb.envw{s:Za}{w00 w:World}{x:Option Addr}{K:Nat}(h:Zb s w00 w x K):Zm w:=h.env.of_below h.belw
theorem jb9(w:World):Calls Tryz.prog 133 #[.int .i64 0] w fun q w'=>q=.returned .nilIface/\w'=w:=by
 go_enter Tryz.func133,Tryz.ntmps133
 go_wp2
 go_ret
 exact⟨rfl,rfl⟩
def timS(d c:ByteArray):ByteArray:=d++⟨#[32]⟩++c
theorem ji3(d c:ByteArray)(w:World)(hT:Tab w)(h0:trC (timS d c)=0)(hm:(timS d c).size<=maxLen):
  Calls Tryz.prog 132 #[.agg #[.string d,.string c]] w fun q w'=>q=.returned (.tuple #[.int .i64 (trN (timS d c)),.nilIface])/\Below w.heap.size w w':=by
 have b1:=qal w (.cells #[.string d,.string c] 165)
 have hR:=jmg (timS d c) (w.alloc (.cells #[.string d,.string c] 165)) (hT.of_below b1) hm
 rw[h0]at hR
 have hsz:(d++⟨#[32]⟩++c).size=d.size+1+c.size:=by rw[ByteArray.size_append,ByteArray.size_append];rfl
 have hmm:=hm
 unfold timS at hmm
 rw[hsz]at hmm
 unfold maxLen at hmm
 have HS:=hidP (show d++⟨#[32]⟩++c=timS d c from rfl)
 have hR0:=fun W=>jb9 W
 clear hm h0 hsz
 generalize trN (timS d c)=N at *
 have HR:=hidP hR
 clear hR
 go_enter Tryz.func132,Tryz.ntmps132
 go_wp2_with fail
 rw[HS.out]
 refine HR.out.mono ?_
 rintro q w2 ⟨rfl,hb2⟩
 have hb:=qtr b1 hb2
 have b3:=hb.alloc hb.size (.cells #[.int .i64 N,.int .i64 0] 219)
 go_wp2_with fail
 go_quiet ((go_at_call 133;exact Calls.quiet_of_same (hR0 _)))
 go_wp2
 go_ret2
 exact⟨rfl,b3.trans ((jbn _ _).mono b3.size)⟩
theorem jso (s:Za) (id gap fold:Int) (name zone d c:ByteArray) (p:Nat) (w00 w:World) (x:Option Addr) (K:Nat) (hV:Zc w p [.int .i64 id,.string name,.string zone,.int .i64 0,.int .i64 gap,.int .i64 fold,.string d,.string c]) (h0:trC (timS d c)=0) (hm:(timS d c).size<=maxLen)
  (hP:∀W,Zb s w00 W x K->Calls Tryz.prog 134 #[.pointer x,(EventD.mk id name zone (trN (timS d c)) gap fold).v] W fun q w'=>q=.returned (.int .i64 0)/\Zb (addS s ⟨id,name,zone,trN (timS d c),gap,fold⟩ false) w00 w' x (K+30)/\Frm W w') (hK:Zb s w00 w x K):
  Calls Tryz.prog 93 #[.pointer (some ⟨p,0,none⟩),.pointer x] w fun q w'=>q=.returned (.tuple #[.string ⟨#[111,107]⟩,.nilIface])/\Zb (addS s ⟨id,name,zone,trN (timS d c),gap,fold⟩ false) w00 w' x (K+30)/\Frm w w':=by
 have hTm:=ji3 d c w hK.envw.1 h0 hm
 generalize trN (timS d c)=N at *
 simp only[EventD.v]at hP
 have e6:=hV.c 6 rfl
 have e7:=hV.c 7 rfl
 have hR0:=fun W=>jb9 W
 have HK:=hidP hK
 have HV:=hidP hV
 clear hK hV h0 hm
 go_enter Tryz.func93,Tryz.ntmps93
 go_wp2_with fail
 refine hTm.mono ?_
 rintro q w1 ⟨rfl,hb1⟩
 have V1:=HV.out.below hb1
 have y0:=V1.c 0 rfl
 have y1:=V1.c 1 rfl
 have y2:=V1.c 2 rfl
 have y3:=V1.c 3 rfl
 have y4:=V1.c 4 rfl
 have y5:=V1.c 5 rfl
 have b2:=qal w1 (.cells #[.int .i64 id,.string name,.string zone,.int .i64 N,.int .i64 gap,.int .i64 fold] 99)
 have E2:=Zc.new w1 [.int .i64 id,.string name,.string zone,.int .i64 N,.int .i64 gap,.int .i64 fold] 99
 have hb12:=qtr hb1 b2
 have hI2:=HK.out.below hb12
 have HF2:=hidP (Frm.of_below hb12)
 clear HK HV hb1 b2 hb12 hTm e6 e7
 go_upto_region 6 with fail
 generalize w1.alloc (.cells #[.int .i64 id,.string name,.string zone,.int .i64 N,.int .i64 gap,.int .i64 fold] 99)=w2 at *
 have z0:=E2.c 0 (u:=.int .i64 id) rfl
 have z1:=E2.c 1 (u:=.string name) rfl
 have z2:=E2.c 2 (u:=.string zone) rfl
 have z3:=E2.c 3 (u:=.int .i64 N) rfl
 have z4:=E2.c 4 (u:=.int .i64 gap) rfl
 have z5:=E2.c 5 (u:=.int .i64 fold) rfl
 have hPP:=hP w2 hI2
 clear hI2 E2 hP V1
 go_wp2_with fail
 refine hPP.mono ?_
 rintro q w3 ⟨rfl,hI3,hF3⟩
 have HP:=hidP (And.intro hI3 (HF2.out.trans hF3))
 clear hPP hI3 hF3
 go_wp2_with fail
 refine(hR0 _).mono ?_
 rintro q w4 ⟨rfl,hw⟩
 subst hw
 go_wp2
 go_ret2
 exact⟨rfl,HP.out.1,HP.out.2⟩
theorem jhi (s':Za) (t:ByteArray) (p:Nat) (w00 w:World) (x:Option Addr) (K:Nat) (hV:Zc w p [.string t])
  (hP:Calls Tryz.prog 136 #[.pointer x,.string t] w fun q w'=>q=.returned (.int .i64 0)/\Zb s' w00 w' x K/\Frm w w'):
  Calls Tryz.prog 95 #[.pointer (some ⟨p,0,none⟩),.pointer x] w fun q w'=>q=.returned (.tuple #[.string ⟨#[111,107]⟩,.nilIface])/\Zb s' w00 w' x K/\Frm w w':=by
 have e0:=hV.c 0 rfl
 have hR0:=fun W=>jb9 W
 clear hV
 go_enter Tryz.func95,Tryz.ntmps95
 go_wp2_with fail
 refine hP.mono ?_
 rintro q w3 ⟨rfl,hI3,hF3⟩
 have HP:=hidP (And.intro hI3 hF3)
 clear hP hI3 hF3
 go_wp2_with fail
 refine(hR0 _).mono ?_
 rintro q w4 ⟨rfl,hw⟩
 subst hw
 go_wp2
 go_ret2
 exact⟨rfl,HP.out.1,HP.out.2⟩
def okN(n:Nat):ByteArray:=⟨#[111,107,32]⟩++⟨(Lib.decDigits n).toArray⟩
theorem jup (s':Za) (m:Int) (n:Nat) (p:Nat) (w00 w:World) (x:Option Addr) (K:Nat) (hn:n<100) (hl:(Lib.decDigits n).length<=20) (hV:Zc w p [.int .i64 m])
  (hP:Calls Tryz.prog 137 #[.pointer x,.int .i64 m] w fun q w'=>q=.returned (.tuple #[.int .i64 n,.int .i64 0])/\Zb s' w00 w' x K/\Frm w w'):
  Calls Tryz.prog 96 #[.pointer (some ⟨p,0,none⟩),.pointer x] w fun q w'=>q=.returned (.tuple #[.string (okN n),.nilIface])/\Zb s' w00 w' x K/\Frm w w':=by
 have e0:=hV.c 0 rfl
 have hR0:=fun W=>jb9 W
 have hFm:=fun W=>Tryz.strconv_FormatInt_10_small n hn W
 have HX:=hidP (show⟨#[111,107,32]⟩++⟨(Lib.decDigits n).toArray⟩=okN n from rfl)
 have hz:(⟨(Lib.decDigits n).toArray⟩:ByteArray).size<=20:=by show(Lib.decDigits n).toArray.size<=20;simpa using hl
 generalize (⟨(Lib.decDigits n).toArray⟩:ByteArray)=T at *
 clear hV hl
 go_enter Tryz.func96,Tryz.ntmps96
 go_wp2_with fail
 refine hP.mono ?_
 rintro q w3 ⟨rfl,hI3,hF3⟩
 have HP:=hidP (And.intro hI3 hF3)
 clear hP hI3 hF3
 go_wp2_with fail
 refine(hFm _).mono ?_
 rintro q w4 ⟨rfl,hw⟩
 subst hw
 go_wp2_with fail
 refine(hR0 _).mono ?_
 rintro q w5 ⟨rfl,hw⟩
 subst hw
 go_wp2
 go_ret2
 rw[HX.out]
 exact⟨rfl,HP.out.1,HP.out.2⟩
end
section
open Go.RowKit
def digS(i:Int):ByteArray:=⟨(Lib.decDigits i.toNat).toArray⟩
def idsT(l:List Int):ByteArray:=if l=[]then⟨#[45]⟩else⟨(Lib.join (l.map fun i=>Lib.decDigits i.toNat) [32]).toArray⟩
def jk3(i:Int):Prop:=0<=i/\i<100/\(Lib.decDigits i.toNat).length<=20
theorem jl5(sep:List UInt8)(hs:sep.length<=1):∀(l:List (List UInt8)),(∀x∈l,x.length<=20)->(Lib.join l sep).length<=21*l.length
 |[],_=>by simp[Lib.join_nil]
 |[x],h=>by rw[Lib.join_one];have:=h x (by simp);simp;omega
 |x::y::l,h=>by
  have ih:=jl5 sep hs (y::l) (fun z hz=>h z (List.mem_cons_of_mem _ hz))
  have h0:=h x (by simp)
  rw[Lib.join_cons]at ih ⊢
  simp only[Lib.joinTail,List.map_cons,List.flatten_cons,List.length_append,List.length_cons]at *
  omega
theorem jij{w:World}{base n c:Nat}{a:Option Addr}{xs:List ByteArray}(h:w.ownsRow base 9 1 (.slice a n c) n (xs.map Value.string))(h1:1<=n):∃g,a=some ⟨g,0,none⟩/\n<=c/\g<w.heap.size/\∀(j:Nat) x,xs[j]? =some x->w.cell? ⟨g,0+j,none⟩=some (.string x):=by
 rcases h.2 with⟨_,h0⟩|⟨g,cap,cur,hv,_,hh,hc,_,_,ht⟩
 ·omega
 ·injection hv with ha hb hc'
  subst ha hc'
  refine⟨g,rfl,hc,(Array.getElem?_eq_some_iff.mp hh).1,fun j x hx=>?_⟩
  have hj:(xs.map Value.string)[j]? =some (.string x):=by rw[List.getElem?_map,hx];rfl
  rw[<- ht,List.getElem?_take]at hj
  split at hj
  ·simp only[World.cell?,hh,Nat.zero_add]
   rw[<- Array.getElem?_toList]
   exact hj
  ·cases hj
theorem j1v(x:EventD)(w:World):Calls Tryz.prog 145 #[x.v] w fun q w'=>q=.returned (.int .i64 x.id)/\Below w.heap.size w w':=by
 obtain⟨id,name,zone,wall,gap,fold⟩:=x
 simp only[EventD.v]
 have hb:=qal w (.cells #[.int .i64 id,.string name,.string zone,.int .i64 wall,.int .i64 gap,.int .i64 fold] 99)
 go_enter Tryz.func145,Tryz.ntmps145
 go_wp2
 go_ret
 exact⟨rfl,hb⟩
theorem jx4(P:List EventD)(a:Option Addr)(cap:Nat)(w:World)(hP:Zd w a 6 (P.map EventD.cs))(hl:P.length<=60)(hidE:∀x∈P,jk3 x.id):
  Calls Tryz.prog 144 #[.slice a P.length cap,.func (.func 145) #[] #[]] w fun q w'=>q=.returned (.string (idsT (P.map EventD.id)))/\Below w.heap.size w w':=by
 cases P with
 |nil=>
  go_enter Tryz.func144,Tryz.ntmps144
  go_wp2
  go_ret
  exact⟨rfl,Below.refl _ _⟩
 |cons x0 P0=>
 obtain⟨P,hPP⟩:∃P,x0::P0=P:=⟨_,rfl⟩
 rw[hPP]at hP hl hidE ⊢
 have hne:P.map EventD.id≠[]:=by rw[<- hPP];simp
 have hn1:1<=P.length:=by rw[<- hPP];simp
 clear hPP
 obtain⟨i0,hi,hz0,hz1,hz2⟩:=jnx
 have hC:=fun x W=>j1v x W
 have hFm:=fun n hn W=>Tryz.strconv_FormatInt_10_small n hn W
 obtain⟨n,hn⟩:∃x,P.length=x:=⟨_,rfl⟩
 have HN:=hid hn
 have HP:=hid hP
 have HI:=hid hidE
 have HNE:=hid hne
 rw[hn]at hl hn1 ⊢
 have h0:((n:Int)==0)=false:=by simp;omega
 clear hn hP hidE hne
 go_enter Tryz.func144,Tryz.ntmps144
 go_wp2_with fail
 go_loopw [5,7,13] (fun v _ t wr=>∃j:Nat,t=.int .i64 j/\j<=n/\Below w.heap.size w wr/\wr.ownsRow w.heap.size 9 1 v j (((P.take j).map fun x=>digS x.id).map Value.string)) (fun _ _ t _=>n-(intOf t).toNat)
 case atStart=>exact⟨0,rfl,by omega,Below.refl _ _,World.ownsRow_nil _ _ _ _⟩
 case round=>
  obtain⟨wa,hwa⟩:∃x:World,x=wr:=⟨_,rfl⟩
  subst hwa
  obtain⟨j,rfl,hj,hB,hown⟩:=hrel
  obtain⟨a3,c3,e3⟩:=jdq hown
  subst e3
  by_cases hlt:j<n
  ·obtain⟨x,hx⟩:∃x,P[j]? =some x:=⟨_,List.getElem?_eq_getElem (by rw[HN.out];exact hlt)⟩
   have hsm:=HI.out x (List.mem_of_getElem? hx)
   obtain⟨b,o,rfl,hc⟩:=(HP.out.below hB).at (i:=j) (r:=x.cs) (by rw[List.getElem?_map,hx];rfl)
   have c0:wa.cell? ⟨b,o+j*6,none⟩=some (.int .i64 x.id):=hc 0 _ rfl
   have c1:wa.cell? ⟨b,o+j*6+1,none⟩=some (.string x.name):=hc 1 _ rfl
   have c2:wa.cell? ⟨b,o+j*6+2,none⟩=some (.string x.zone):=hc 2 _ rfl
   have c3:wa.cell? ⟨b,o+j*6+3,none⟩=some (.int .i64 x.wall):=hc 3 _ rfl
   have c4:wa.cell? ⟨b,o+j*6+4,none⟩=some (.int .i64 x.gap):=hc 4 _ rfl
   have c5:wa.cell? ⟨b,o+j*6+5,none⟩=some (.int .i64 x.fold):=hc 5 _ rfl
   have b1:=qal wa (.cells #[.int .i64 x.id,.string x.name,.string x.zone,.int .i64 x.wall,.int .i64 x.gap,.int .i64 x.fold] 99)
   have hB1:=qtr hB b1
   have hown1:=jad hown b1
   have HTK:Hid (((P.take (j+1)).map fun x=>digS x.id)=((P.take j).map fun x=>digS x.id)++[digS x.id]):=by
    simp only[Hid]
    rw[List.take_add_one,hx,List.map_append]
    rfl
   obtain⟨m,hm⟩:∃m:Nat,x.id=m:=⟨x.id.toNat,by have:=hsm.1;omega⟩
   have hm100:m<100:=by have:=hsm.2.1;omega
   have hF:=fun W=>hFm m hm100 W
   have HD:Hid ((⟨(Lib.decDigits m).toArray⟩:ByteArray)=digS x.id):=by simp only[Hid,digS,hm];rfl
   simp only[HD.out]at hF
   have hdz:(digS x.id).size<=maxLen:=by show(Lib.decDigits x.id.toNat).toArray.size<=maxLen;have:=hsm.2.2;unfold maxLen;simp;omega
   have hCx:=hC x
   simp only[EventD.v]at hCx
   clear hc hx HD hFm
   generalize digS x.id=dg at *
   obtain⟨id,name,zone,wall,gap,fold⟩:=x
   dsimp only at *
   subst hm
   clear hsm hown
   go_wp2_with fail
   generalize wa.alloc (.cells #[.int .i64 m,.string name,.string zone,.int .i64 wall,.int .i64 gap,.int .i64 fold] 99)=wb at *
   refine(hCx _).mono ?_
   rintro q w1 ⟨rfl,hb1⟩
   have hB2:=qtr hB1 hb1
   have hown2:=jad hown1 hb1
   clear hCx hB1 hown1 hb1 hC b1
   go_wp2_with fail
   refine(hF _).mono ?_
   rintro q w2 ⟨rfl,hw⟩
   subst hw
   have hBs:=hB2.size
   go_wp2_with (first
    |(at_builtin;refine wpList_append_own _ rfl _ _ 29 rfl w.heap.size 9 i0 (.string ⟨#[]⟩) 1 16 Tryz.underlying29 hi hz0 hz1 hz2 rfl (by decide) _ _ _ rfl (hown2.alloc _) ⟨w2.heap.size,0,none⟩ 1 1 [.string dg] rfl rfl ?c1 ?c2 ?c3 ?c4 ?c5 ?_)
    |fail)
   case c1=>exact cell_one_new _ _ _
   case c2=>intro u hu;simp at hu;subst hu;rfl
   case c3=>unfold maxLen;omega
   case c4=>omega
   case c5=>simp;omega
   ·intro v' w3 hown' hgrow _
    have hB3:=(hB2.alloc hB2.size (.cells #[.string dg] 9)).grown hgrow (by simp;omega) (fun g hg=>(World.ownsRow.lt hown2 g hg).1)
    have HO:Hid (w3.ownsRow w.heap.size 9 1 v' (j+1) (((P.take (j+1)).map fun x=>digS x.id).map Value.string)):=by simp only[Hid];rw[HTK.out,List.map_append];simpa using hown'
    clear hown' hgrow hown2 hB2
    go_wp2
    go_roundw
    case rel=>exact⟨j+1,by go_num,by omega,hB3,HO.out⟩
    case measure=>simp[intOf];omega
  ·obtain rfl:j=n:=by omega
   have hTK:(P.take j).map (fun x=>digS x.id)=P.map (fun x=>digS x.id):=by rw[List.take_of_length_le (by rw[HN.out];omega)]
   rw[hTK]at hown
   obtain⟨g,rfl,hcap,hgl,hcells⟩:=jij hown hn1
   have hXL:(P.map fun x=>digS x.id).length=j:=by rw[List.length_map,HN.out]
   have hmap:(P.map fun x=>digS x.id).map (·.data.toList)=(P.map EventD.id).map fun i=>Lib.decDigits i.toNat:=by rw[List.map_map,List.map_map];exact List.map_congr_left fun x _=>by simp[digS]
   have hJ:=Tryz.strings_Join g 0 c3 (P.map fun x=>digS x.id) ⟨#[32]⟩ wa hcells hgl (by omega) (by omega) (by
    rw[hmap]
    refine Nat.le_trans (jl5 _ (by simp) _ (fun y hy=>?_)) (by rw[List.length_map,List.length_map,HN.out];omega)
    simp only[List.mem_map]at hy
    obtain⟨i,⟨x,hx,rfl⟩,rfl⟩:=hy
    exact(HI.out x hx).2.2)
   rw[hmap,hXL]at hJ
   have HID:Hid ((⟨(Lib.join ((P.map EventD.id).map fun i=>Lib.decDigits i.toNat) (⟨#[32]⟩:ByteArray).data.toList).toArray⟩:ByteArray)=idsT (P.map EventD.id)):=by simp only[Hid,idsT];rw[if_neg HNE.out]
   rw[HID.out]at hJ
   clear hTK hown hcells hmap hXL hC hFm HP HI
   obtain⟨RT,hRT⟩:∃y,idsT (P.map EventD.id)=y:=⟨_,rfl⟩
   have HRT:=hidQ hRT
   rw[hRT]at hJ
   clear hRT HID
   go_wp2_with fail
   refine hJ.mono ?_
   rintro q w2 ⟨rfl,hb2⟩
   have HB:=hidQ (qtr hB hb2)
   clear hb2 hB hJ
   go_wp2
   go_ret
   exact⟨by rw[HRT.out];rfl,HB.out⟩
theorem j1w(x:EntryD)(w:World):Calls Tryz.prog 142 #[x.v] w fun q w'=>q=.returned (.int .i64 x.id)/\Below w.heap.size w w':=by
 obtain⟨at_,id⟩:=x
 simp only[EntryD.v]
 have hb:=qal w (.cells #[.int .i64 at_,.int .i64 id] 108)
 go_enter Tryz.func142,Tryz.ntmps142
 go_wp2
 go_ret
 exact⟨rfl,hb⟩
theorem jx5(P:List EntryD)(a:Option Addr)(cap:Nat)(w:World)(hP:Zd w a 2 (P.map EntryD.cs))(hl:P.length<=60)(hidE:∀x∈P,jk3 x.id):
  Calls Tryz.prog 140 #[.slice a P.length cap,.func (.func 142) #[] #[]] w fun q w'=>q=.returned (.string (idsT (P.map EntryD.id)))/\Below w.heap.size w w':=by
 cases P with
 |nil=>
  go_enter Tryz.func140,Tryz.ntmps140
  go_wp2
  go_ret
  exact⟨rfl,Below.refl _ _⟩
 |cons x0 P0=>
 obtain⟨P,hPP⟩:∃P,x0::P0=P:=⟨_,rfl⟩
 rw[hPP]at hP hl hidE ⊢
 have hne:P.map EntryD.id≠[]:=by rw[<- hPP];simp
 have hn1:1<=P.length:=by rw[<- hPP];simp
 clear hPP
 obtain⟨i0,hi,hz0,hz1,hz2⟩:=jnx
 have hC:=fun x W=>j1w x W
 have hFm:=fun n hn W=>Tryz.strconv_FormatInt_10_small n hn W
 obtain⟨n,hn⟩:∃x,P.length=x:=⟨_,rfl⟩
 have HN:=hid hn
 have HP:=hid hP
 have HI:=hid hidE
 have HNE:=hid hne
 rw[hn]at hl hn1 ⊢
 have h0:((n:Int)==0)=false:=by simp;omega
 clear hn hP hidE hne
 go_enter Tryz.func140,Tryz.ntmps140
 go_wp2_with fail
 go_loopw [5,7,13] (fun v _ t wr=>∃j:Nat,t=.int .i64 j/\j<=n/\Below w.heap.size w wr/\wr.ownsRow w.heap.size 9 1 v j (((P.take j).map fun x=>digS x.id).map Value.string)) (fun _ _ t _=>n-(intOf t).toNat)
 case atStart=>exact⟨0,rfl,by omega,Below.refl _ _,World.ownsRow_nil _ _ _ _⟩
 case round=>
  obtain⟨wa,hwa⟩:∃x:World,x=wr:=⟨_,rfl⟩
  subst hwa
  obtain⟨j,rfl,hj,hB,hown⟩:=hrel
  obtain⟨a3,c3,e3⟩:=jdq hown
  subst e3
  by_cases hlt:j<n
  ·obtain⟨x,hx⟩:∃x,P[j]? =some x:=⟨_,List.getElem?_eq_getElem (by rw[HN.out];exact hlt)⟩
   have hsm:=HI.out x (List.mem_of_getElem? hx)
   obtain⟨b,o,rfl,hc⟩:=(HP.out.below hB).at (i:=j) (r:=x.cs) (by rw[List.getElem?_map,hx];rfl)
   have c0:wa.cell? ⟨b,o+j*2,none⟩=some (.int .i64 x.at_):=hc 0 _ rfl
   have c1:wa.cell? ⟨b,o+j*2+1,none⟩=some (.int .i64 x.id):=hc 1 _ rfl
   have b1:=qal wa (.cells #[.int .i64 x.at_,.int .i64 x.id] 108)
   have hB1:=qtr hB b1
   have hown1:=jad hown b1
   have HTK:Hid (((P.take (j+1)).map fun x=>digS x.id)=((P.take j).map fun x=>digS x.id)++[digS x.id]):=by
    simp only[Hid]
    rw[List.take_add_one,hx,List.map_append]
    rfl
   obtain⟨m,hm⟩:∃m:Nat,x.id=m:=⟨x.id.toNat,by have:=hsm.1;omega⟩
   have hm100:m<100:=by have:=hsm.2.1;omega
   have hF:=fun W=>hFm m hm100 W
   have HD:Hid ((⟨(Lib.decDigits m).toArray⟩:ByteArray)=digS x.id):=by simp only[Hid,digS,hm];rfl
   simp only[HD.out]at hF
   have hdz:(digS x.id).size<=maxLen:=by show(Lib.decDigits x.id.toNat).toArray.size<=maxLen;have:=hsm.2.2;unfold maxLen;simp;omega
   have hCx:=hC x
   simp only[EntryD.v]at hCx
   clear hc hx HD hFm
   generalize digS x.id=dg at *
   obtain⟨at_,id⟩:=x
   dsimp only at *
   subst hm
   clear hsm hown
   go_wp2_with fail
   generalize wa.alloc (.cells #[.int .i64 at_,.int .i64 m] 108)=wb at *
   refine(hCx _).mono ?_
   rintro q w1 ⟨rfl,hb1⟩
   have hB2:=qtr hB1 hb1
   have hown2:=jad hown1 hb1
   clear hCx hB1 hown1 hb1 hC b1
   go_wp2_with fail
   refine(hF _).mono ?_
   rintro q w2 ⟨rfl,hw⟩
   subst hw
   have hBs:=hB2.size
   go_wp2_with (first
    |(at_builtin;refine wpList_append_own _ rfl _ _ 29 rfl w.heap.size 9 i0 (.string ⟨#[]⟩) 1 16 Tryz.underlying29 hi hz0 hz1 hz2 rfl (by decide) _ _ _ rfl (hown2.alloc _) ⟨w2.heap.size,0,none⟩ 1 1 [.string dg] rfl rfl ?c1 ?c2 ?c3 ?c4 ?c5 ?_)
    |fail)
   case c1=>exact cell_one_new _ _ _
   case c2=>intro u hu;simp at hu;subst hu;rfl
   case c3=>unfold maxLen;omega
   case c4=>omega
   case c5=>simp;omega
   ·intro v' w3 hown' hgrow _
    have hB3:=(hB2.alloc hB2.size (.cells #[.string dg] 9)).grown hgrow (by simp;omega) (fun g hg=>(World.ownsRow.lt hown2 g hg).1)
    have HO:Hid (w3.ownsRow w.heap.size 9 1 v' (j+1) (((P.take (j+1)).map fun x=>digS x.id).map Value.string)):=by simp only[Hid];rw[HTK.out,List.map_append];simpa using hown'
    clear hown' hgrow hown2 hB2
    go_wp2
    go_roundw
    case rel=>exact⟨j+1,by go_num,by omega,hB3,HO.out⟩
    case measure=>simp[intOf];omega
  ·obtain rfl:j=n:=by omega
   have hTK:(P.take j).map (fun x=>digS x.id)=P.map (fun x=>digS x.id):=by rw[List.take_of_length_le (by rw[HN.out];omega)]
   rw[hTK]at hown
   obtain⟨g,rfl,hcap,hgl,hcells⟩:=jij hown hn1
   have hXL:(P.map fun x=>digS x.id).length=j:=by rw[List.length_map,HN.out]
   have hmap:(P.map fun x=>digS x.id).map (·.data.toList)=(P.map EntryD.id).map fun i=>Lib.decDigits i.toNat:=by rw[List.map_map,List.map_map];exact List.map_congr_left fun x _=>by simp[digS]
   have hJ:=Tryz.strings_Join g 0 c3 (P.map fun x=>digS x.id) ⟨#[32]⟩ wa hcells hgl (by omega) (by omega) (by
    rw[hmap]
    refine Nat.le_trans (jl5 _ (by simp) _ (fun y hy=>?_)) (by rw[List.length_map,List.length_map,HN.out];omega)
    simp only[List.mem_map]at hy
    obtain⟨i,⟨x,hx,rfl⟩,rfl⟩:=hy
    exact(HI.out x hx).2.2)
   rw[hmap,hXL]at hJ
   have HID:Hid ((⟨(Lib.join ((P.map EntryD.id).map fun i=>Lib.decDigits i.toNat) (⟨#[32]⟩:ByteArray).data.toList).toArray⟩:ByteArray)=idsT (P.map EntryD.id)):=by simp only[Hid,idsT];rw[if_neg HNE.out]
   rw[HID.out]at hJ
   clear hTK hown hcells hmap hXL hC hFm HP HI
   obtain⟨RT,hRT⟩:∃y,idsT (P.map EntryD.id)=y:=⟨_,rfl⟩
   have HRT:=hidQ hRT
   rw[hRT]at hJ
   clear hRT HID
   go_wp2_with fail
   refine hJ.mono ?_
   rintro q w2 ⟨rfl,hb2⟩
   have HB:=hidQ (qtr hB hb2)
   clear hb2 hB hJ
   go_wp2
   go_ret
   exact⟨by rw[HRT.out];rfl,HB.out⟩
end
end Go.Proofs.YtofdpfpdocpbpaaGreatDoor
