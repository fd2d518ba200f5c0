import Derived.Test.YtpejeokacilebaaGreatDoorBasePd
import Derived.Test.YtpejeokacilebaaGreatDoorShelfK
import Derived.Lib.QuietBelow
import Derived.Deep.RegionHeld3
import Derived.Deep.CutRange
import Derived.Laws.EntriesVeiled
set_option maxHeartbeats 0
set_option linter.unusedSimpArgs false
open Go.RowKit Go.Sort
namespace Go.Proofs.YtpejeokacilebaaGreatDoor
def wdNames:ByteArray:=⟨#[83,117,110,77,111,110,84,117,101,87,101,100,84,104,117,70,114,105,83,97,116]⟩
def spB(s t:ByteArray)(k:Nat):Bool:=(s.extract (k*3) ((k+1)*3)).toList==t.toList
def spG(s t:ByteArray):Nat->Nat->Int
 |_,0=> -1
 |k,n+1=>if spB s t k=true then k else spG s t (k+1) n
theorem jvf{s t:ByteArray}{k n:Nat}(h:spB s t k=true)(hn:0<n):spG s t k n=k:=by
 obtain⟨n,rfl⟩:∃m,n=m+1:=⟨n-1,by omega⟩
 simp only[spG];rw[if_pos h]
theorem jlw{s t:ByteArray}{k n:Nat}(h:spB s t k=false)(hn:0<n):spG s t k n=spG s t (k+1) (n-1):=by
 obtain⟨n,rfl⟩:∃m,n=m+1:=⟨n-1,by omega⟩
 simp only[spG];rw[h];rfl
theorem j27(s t:ByteArray)(k n:Nat):spG s t k n= -1\/(k<=spG s t k n/\spG s t k n<k+n):=by
 induction n generalizing k with
 |zero=>exact .inl rfl
 | succ n ih=>
  simp only[spG]
  split
  ·right;omega
  ·rcases ih (k+1)with h|h
   ·exact .inl h
   ·right;omega
def spN(s t:ByteArray)(m:Nat):Int:=if spG s t 0 m<0 then 0 else spG s t 0 m
def spO(s t:ByteArray)(m:Nat):Bool:=decide (0<=spG s t 0 m)
theorem jve{s t:ByteArray}{m:Nat}{k:Int}(h:spG s t 0 m=k)(hk:0<=k):spN s t m=k/\spO s t m=true:=by
 unfold spN spO;rw[h,if_neg (by omega)];exact⟨rfl,dte hk⟩
theorem jps{s t:ByteArray}{m:Nat}(h:spG s t 0 m= -1):spN s t m=0/\spO s t m=false:=by
 unfold spN spO;rw[h];exact⟨rfl,rfl⟩
theorem jkb(s:ByteArray)(k:Nat)(w:World)(h:(k+1)*3<=s.size)(hs:s.size<=1000):
  Cl 257 #[.string s,iv k] w fun e w'=>e=.returned (.string (s.extract (k*3) ((k+1)*3)))/\w'=w:=by
 unfold Cl;go_in
 go_wp2
 go_ret
 exact⟨rfl,rfl⟩
theorem ji4(s t:ByteArray)(m:Nat)(w:World)(hm:s.size=3*m)(hs:m<=300):
  Cl 241 #[.string s,.string t] w fun e w'=>e=.returned (.tuple #[iv (spN s t m),.bool (spO s t m)])/\w'=w:=by
 have hd:(s.size:Int) / 3=m:=by omega
 unfold Cl;go_in
 go_wp2
 go_loop [10] (fun i=>∃k:Nat,k<=m/\i=iv k/\Hid (spG s t 0 m=spG s t k (m-k))) (fun i=>m-(intOf i).toNat)
 case atStart=>exact⟨0,by omega,rfl,rfl⟩
 case round=>
  obtain⟨k,hk,rfl,hg⟩:=hrel
  by_cases hlt:k<m
  ·have hN:=fun w=>jkb s k w (by omega) (by omega)
   cases hb:spB s t k
   ·have HG:Hid (spG s t 0 m=spG s t (k+1) (m-(k+1))):=by
     have:=jlw hb (show 0<m-k by omega)
     simp only[Hid];rw[hg.out,this];congr 1
    unfold spB at hb
    generalize s.extract (k*3) ((k+1)*3)=x at *
    go_wp2_with (go_at_call 257;refine(hN _).mono ?_;rintro e w' ⟨rfl,rfl⟩)
    go_round
    case rel=>exact⟨k+1,by omega,by go_num,HG.out⟩
    case measure=>simp[intOf];omega
   ·have HG:Hid (spG s t 0 m=k):=by
     have:=jvf hb (show 0<m-k by omega)
     simp only[Hid];rw[hg.out,this]
    unfold spB at hb
    generalize s.extract (k*3) ((k+1)*3)=x at *
    go_wp2_with (go_at_call 257;refine(hN _).mono ?_;rintro e w' ⟨rfl,rfl⟩)
    go_ret2
    exact⟨ret_pair (jve HG.out (by omega)).1.symm (jve HG.out (by omega)).2.symm,rfl⟩
  ·have e:k=m:=by omega
   subst e
   have HG:Hid (spG s t 0 k= -1):=by have:=hg.out;simp only[Hid];rw[this];simp[spG]
   go_wp2
   go_ret2
   exact⟨ret_pair (jps HG.out).1.symm (jps HG.out).2.symm,rfl⟩
def wdN(t:ByteArray):Int:=spG wdNames t 0 7
theorem jc6(t:ByteArray):wdN t= -1\/(0<=wdN t/\wdN t<7):=by
 have:=j27 wdNames t 0 7
 unfold wdN;omega
theorem jcb(t:ByteArray)(w:World):
  Cl 218 #[.string t] w fun e w'=>e=.returned (iv (wdN t))/\w'=w:=by
 have hP:=fun w=>ji4 wdNames t 7 w (by decide) (by omega)
 rcases jc6 t with bd|bd
 ·have e:=jps (s:=wdNames) (t:=t) (m:=7) bd
  rw[e.1,e.2]at hP
  rw[bd]
  unfold wdNames at hP
  clear bd e
  unfold Cl;go_in
  go_wp2_with (go_at_call 241;refine(hP _).mono ?_;rintro e w' ⟨rfl,rfl⟩)
  go_ret
  exact⟨rfl,rfl⟩
 ·have e:=jve (s:=wdNames) (t:=t) (m:=7) (k:=wdN t) rfl bd.1
  rw[e.1,e.2]at hP
  unfold wdNames at hP
  generalize wdN t=r at *
  clear bd e
  unfold Cl;go_in
  go_wp2_with (go_at_call 241;refine(hP _).mono ?_;rintro e w' ⟨rfl,rfl⟩)
  go_ret
  exact⟨rfl,rfl⟩
def wdList:List ByteArray:=[⟨#[83,117,110]⟩,⟨#[77,111,110]⟩,⟨#[84,117,101]⟩,⟨#[87,101,100]⟩,⟨#[84,104,117]⟩,⟨#[70,114,105]⟩,⟨#[83,97,116]⟩]
theorem juh{k:Nat}(h:k<7):(wdList.getD k ⟨#[]⟩).toList=(wdNames.extract (k*3) ((k+1)*3)).toList:=by
 rcases(show k=0\/k=1\/k=2\/k=3\/k=4\/k=5\/k=6 by omega)with rfl|rfl|rfl|rfl|rfl|rfl|rfl<;>(rw[ByteArray.toList_eq,ByteArray.toList_eq];rfl)
theorem jy4(w:World)(T:TypeId)(l:List ByteArray)(i:Nat)(hi:i<l.length):(w.alloc (.cells (l.map Value.string).toArray T)).cell? (ad w.heap.size i)=some (.string (l.getD i ⟨#[]⟩)):=by
 simp[List.getD,hi]
theorem jcp(t:ByteArray)(w:World):
  Cl 122 #[.string t] w fun e w'=>e=.returned (iv (wdN t))/\Bw w w':=by
 have hc:=fun i hi=>jy4 w 9 wdList i hi
 have hl:wdList.length=7:=rfl
 unfold wdN
 unfold Cl;go_in
 go_wp2
 go_loop [4] (fun i=>∃k:Nat,k<=7/\i=iv k/\Hid (spG wdNames t 0 7=spG wdNames t k (7-k))) (fun i=>7-(intOf i).toNat)
 case atStart=>exact⟨0,by omega,rfl,rfl⟩
 case round=>
  obtain⟨k,hk,rfl,hg⟩:=hrel
  by_cases hlt:k<7
  ·obtain⟨x,hx,ja⟩:∃x:ByteArray,(w.alloc (.cells (wdList.map Value.string).toArray 9)).cell? (ad w.heap.size k)=some (.string x)/\(x.toList==t.toList)=spB wdNames t k:=
    ⟨_,hc k (by omega),by unfold spB;rw[juh hlt]⟩
   unfold wdList at hx
   simp only[List.map_cons,List.map_nil]at hx
   clear hc
   cases hb:spB wdNames t k
   ·have HG:Hid (spG wdNames t 0 7=spG wdNames t (k+1) (7-(k+1))):=by
     have:=jlw hb (show 0<7-k by omega)
     simp only[Hid];rw[hg.out,this];congr 1
    rw[hb]at ja
    clear hb hg
    go_wp2
    go_round
    case rel=>exact⟨k+1,by omega,by go_num,HG.out⟩
    case measure=>simp[intOf];omega
   ·have HG:Hid (spG wdNames t 0 7=k):=by
     have:=jvf hb (show 0<7-k by omega)
     simp only[Hid];rw[hg.out,this]
    rw[hb]at ja
    clear hb hg
    go_wp2
    go_ret
    exact⟨ret_int HG.out.symm,qal _ _⟩
  ·have e:k=7:=by omega
   subst e
   have HG:Hid (spG wdNames t 0 7= -1):=by have:=hg.out;simp only[Hid];rw[this];rfl
   go_wp2
   go_ret
   exact⟨ret_int HG.out.symm,qal _ _⟩
def jff(v d:Int):Int:=if v= -1\/d= -1000000 then -1000000 else d+(v-(d+719163)%7+7)%7
def jcg(v d:Int):Int:=if v= -1\/d= -1000000 then -1000000 else d-((d+719163)%7-v+7)%7
theorem jhb(v d:Int)(w:World)(hv:v= -1\/(0<=v/\v<7))(hd:d= -1000000\/(-719162<=d/\d<=2932896)):
  Cl 221 #[iv v,iv d] w fun e w'=>e=.returned (iv (jff v d))/\w'=w:=by
 unfold jff
 by_cases h1:v= -1
 ·subst h1
  rw[if_pos (.inl rfl)]
  unfold Cl;go_in
  go_wp2
  go_ret
  exact⟨rfl,rfl⟩
 by_cases h2:d= -1000000
 ·subst h2
  have g1:(v== -1)=false:=by simpa using h1
  rw[if_pos (.inr rfl)]
  unfold Cl;go_in
  go_wp2
  go_ret
  exact⟨rfl,rfl⟩
 ·rw[if_neg (by omega)]
  have g1:(v== -1)=false:=by simpa using h1
  have g2:(d== -1000000)=false:=by simpa using h2
  have hW:=fun w=>jg3 d w
  rw[jug (by omega) (by omega)]at hW
  have hr:0<=(d+719163)%7/\(d+719163)%7<7:=by omega
  have oJ:0<=v/\v<7:=by omega
  have BV: -719162<=d/\d<=2932896:=by omega
  clear hv hd h1 h2
  generalize (d+719163)%7=r at *
  unfold Cl;go_in
  go_wp2_with (go_at_call 240;refine(hW _).mono ?_;rintro e w' ⟨rfl,rfl⟩)
  go_ret
  exact⟨ret_int (by omega),rfl⟩
theorem jdt(v d:Int)(w:World)(hv:v= -1\/(0<=v/\v<7))(hd:d= -1000000\/(-719162<=d/\d<=2932896)):
  Cl 217 #[iv v,iv d] w fun e w'=>e=.returned (iv (jcg v d))/\w'=w:=by
 unfold jcg
 by_cases h1:v= -1
 ·subst h1
  rw[if_pos (.inl rfl)]
  unfold Cl;go_in
  go_wp2
  go_ret
  exact⟨rfl,rfl⟩
 by_cases h2:d= -1000000
 ·subst h2
  have g1:(v== -1)=false:=by simpa using h1
  rw[if_pos (.inr rfl)]
  unfold Cl;go_in
  go_wp2
  go_ret
  exact⟨rfl,rfl⟩
 ·rw[if_neg (by omega)]
  have g1:(v== -1)=false:=by simpa using h1
  have g2:(d== -1000000)=false:=by simpa using h2
  have hW:=fun w=>jg3 d w
  rw[jug (by omega) (by omega)]at hW
  have hr:0<=(d+719163)%7/\(d+719163)%7<7:=by omega
  have oJ:0<=v/\v<7:=by omega
  have BV: -719162<=d/\d<=2932896:=by omega
  clear hv hd h1 h2
  generalize (d+719163)%7=r at *
  unfold Cl;go_in
  go_wp2_with (go_at_call 240;refine(hW _).mono ?_;rintro e w' ⟨rfl,rfl⟩)
  go_ret
  exact⟨ret_int (by omega),rfl⟩
def nbB(y m:Int)(t:ByteArray):Bool:=decide (t.size<=2)&&(digs t&&vldB y m (drN t))
def nbV(y m:Int)(t:ByteArray):Int:=if nbB y m t=true then num y m (drN t)else -1000000
theorem jrl(y m:Int)(t:ByteArray):nbV y m t= -1000000\/(-719162<=nbV y m t/\nbV y m t<=2932896):=by
 unfold nbV
 split
 ·rename_i h
  unfold nbB at h
  simp only[bat]at h
  exact .inr (jb5 h.2.2)
 ·exact .inl rfl
theorem jdp(y m:Int)(s t:ByteArray)(w:World)(hT:Tab w)(hz:t.size<=maxLen):
  Cl 215 #[.agg #[iv y,iv m,.string s],.string t] w fun e w'=>e=.returned (iv (nbV y m t))/\Bw w w':=by
 unfold maxLen at hz
 unfold nbV nbB
 by_cases h2:2<t.size
 ·rw[if_neg (by simp;omega)]
  unfold Cl;go_in
  go_wp2
  go_ret
  exact⟨rfl,qal _ _⟩
 have hD:=fun w=>jje t w (by omega)
 have hR:=fun w (h:Tab w)=>je6 y m (drN t) w h
 rw[dte (show t.size<=2 by omega)]
 cases hd:digs t
 ·rw[hd]at hD
  simp only[Bool.false_and,Bool.and_false,Bool.false_eq_true,if_false]
  clear hd
  generalize drN t=k at *
  unfold Cl;go_in
  go_wp2_with (go_at_call 237;refine(hD _).mono ?_;rintro e w' ⟨rfl,rfl⟩)
  go_ret
  exact⟨rfl,(qal _ _).alloc (by simp) _⟩
 ·rw[hd]at hD
  simp only[Bool.true_and]
  clear hd
  cases hv:vldB y m (drN t)
  ·rw[hv]at hR
   clear hv
   generalize drN t=k at *
   simp only[Bool.false_eq_true,if_false]
   unfold Cl;go_in
   go_wp2_with fail
   refine(hD _).mono ?_
   rintro e w1 ⟨rfl,rfl⟩
   go_wp2_with fail
   refine(hR _ ((hT.alloc _).alloc _)).mono ?_
   rintro e w2 ⟨rfl,hb⟩
   go_wp2
   go_ret
   exact⟨rfl,((qal _ _).alloc (by simp) _).trans (hb.mono (by simp;omega))⟩
  ·have hX:=fun w (h:Tab w)=>je5 y m (drN t) w h hv
   rw[hv]at hR
   clear hv
   generalize num y m (drN t)=q at *
   generalize drN t=k at *
   simp only[if_true]
   unfold Cl;go_in
   go_wp2_with fail
   refine(hD _).mono ?_
   rintro e w1 ⟨rfl,rfl⟩
   go_wp2_with fail
   refine(hR _ ((hT.alloc _).alloc _)).mono ?_
   rintro e w2 ⟨rfl,hb⟩
   obtain⟨hc,hf⟩:=jaf hb
   have hB:=((qal w _).alloc (by simp) _).trans (hb.mono (by simp;omega))
   have eO:=hT.of_below hB
   go_wp2_with fail
   refine(hX _ eO).mono ?_
   rintro e w3 ⟨rfl,ar⟩
   go_wp2
   go_ret
   exact⟨rfl,(qtr hB ar)⟩
def twoN(t:ByteArray):Int:=if t.size<=2 then ldN t else -1
theorem jcu(s:ByteArray)(w:World)(hz:s.size<=maxLen):
  Cl 124 #[.string s] w fun e w'=>e=.returned (iv (twoN s))/\w'=w:=by
 unfold maxLen at hz
 unfold twoN
 by_cases h2:2<s.size
 ·rw[if_neg (by omega)]
  unfold Cl;go_in
  go_wp2
  go_ret
  exact⟨rfl,rfl⟩
 rw[if_pos (by omega)]
 by_cases h0:s.size<1
 ·have h:=jmm (s:=s) (by omega)
  rw[jzn h]
  unfold Cl;go_in
  go_wp2
  go_ret
  exact⟨rfl,rfl⟩
 ·unfold Cl;go_in
  go_wp2
  go_loop [3,4] (fun x i=>∃k:Nat,k<=s.size/\i=iv k/\x=iv (jda s k)/\Hid (∀j,j<k->digB (jae s j)=true)) (fun _ i=>s.size-(intOf i).toNat)
  case atStart=>exact⟨0,by omega,rfl,rfl,upto_zero⟩
  case round=>
   obtain⟨k,hk,rfl,rfl,ak⟩:=hrel
   by_cases hlt:k<s.size
   ·have hB:=fun w=>jdi (jae s k) w
    have nb:=jih (s:=s) (k:=k) (by omega) ak.out
    have e:=jai s k hlt
    cases hb:digB (jae s k)
    ·have HB:Hid (digs s=false):=jxl hlt hb
     rw[hb, <- e]at hB
     clear hb e
     go_wp2_with (go_at_call 68;refine(hB _).mono ?_;rintro e w' ⟨rfl,rfl⟩)
     go_ret
     exact⟨ret_int (jzn HB.out).symm,rfl⟩
    ·have HB:=hid hb
     have ⟨b1,b2⟩:=jxm hb
     have HN:Hid (jda s (k+1)=10*jda s k+((s[k].toNat:Int)-48)):=by simp only[Hid,jda];rw[e]
     rw[hb, <- e]at hB
     rw[<- e]at b1 b2
     clear hb e
     go_wp2_with (go_at_call 68;refine(hB _).mono ?_;rintro e w' ⟨rfl,rfl⟩)
     go_round
     case rel=>exact⟨k+1,by omega,by go_num,by rw[HN.out],jbi ak.out HB.out⟩
     case measure=>simp[intOf];omega
   ·have e:k=s.size:=by omega
    subst e
    have HB:Hid (digs s=true):=jsg (by omega) ak.out
    go_wp2
    go_ret
    exact⟨ret_int (j2a HB.out).symm,rfl⟩
theorem rgS{f:FuncId}{am:Array Value}{W:World}{v:Value}(h:∀w,Cl f am w fun e w'=>e=.returned v/\w'=w):
  ∀dd os,Cl f am (grow (redrawn W dd) os) fun e cW=>e=.returned v/\∃p:Regrown,cW=grow (redrawn W p.d) p.os:=
 fun dd os=>Calls.regrown_of ((h _).mono fun e w' ⟨he,hw⟩=>⟨he,by subst hw;exact brf _ _⟩)
theorem rgA{f:FuncId}{am:Array Value}{W:World}{v:Value}(hT:Tab W)(h:∀w,Tab w->Cl f am w fun e w'=>e=.returned v/\Bw w w'):
  ∀dd os,Cl f am (grow (redrawn W dd) os) fun e cW=>e=.returned v/\∃p:Regrown,cW=grow (redrawn W p.d) p.os:=
 fun dd os=>Calls.regrown_of (h _ (hT.of_below (below_regrown W dd os)))
def Mx(w:World):Prop:=∃m:Int,w.cell? (ad (1) 0)=some (iv m)
theorem Mx.of_below{w w':World}(h:Mx w)(hb:Bw w w'):Mx w':=by
 obtain⟨m,hm⟩:=h
 exact⟨m,by rw[(jaf hb).1 _ _ (qbl hm)];exact hm⟩
theorem Mx.alloc{w:World}(h:Mx w)(o:Obj):Mx (w.alloc o):=h.of_below (qal _ o)
theorem jjf(y m:Int)(s:ByteArray)(w:World)(hT:Tab w)(hz:s.size<=maxLen):
  Cl 187 #[.agg #[iv y,iv m,.string s]] w fun e w'=>e=.returned (iv (nbV y m s))/\Bw w w':=by
 have hN:=fun w (h:Tab w)=>jdp y m s s w h hz
 generalize nbV y m s=k at *
 unfold Cl;go_in
 go_wp2_with fail
 refine(hN _ (hT.alloc _)).mono ?_
 rintro e w1 ⟨rfl,hb⟩
 go_wp2
 go_ret
 exact⟨rfl,(qal _ _).trans (hb.mono (by simp))⟩
def cutA(s:ByteArray)(a b:UInt8):ByteArray:=⟨(Lib.cut s.data.toList [a,b]).1.toArray⟩
def cutZ(s:ByteArray)(a b:UInt8):ByteArray:=⟨(Lib.cut s.data.toList [a,b]).2.1.toArray⟩
def cutB(s:ByteArray)(a b:UInt8):Bool:=(Lib.cut s.data.toList [a,b]).2.2
def jfz(y m:Int)(s:ByteArray):Int:=if cutB s 62 61=true then jff (wdN (cutA s 62 61)) (nbV y m (cutZ s 62 61))else -1000000
def jj7(y m:Int)(s:ByteArray):Int:=if cutB s 60 61=true then jcg (wdN (cutA s 60 61)) (nbV y m (cutZ s 60 61))else -1000000
theorem jxp(s:ByteArray)(a b:UInt8):(cutZ s a b).size<=s.size:=by
 unfold cutZ Lib.cut
 simp only[ByteArray.size]
 split<;>simp
theorem jr8(s:ByteArray)(a b:UInt8)(w:World)(hM:Mx w)(hs:s.size<4294967281):
  Cl 220 #[.string s,.string ⟨#[a,b]⟩] w fun e w'=>e=.returned (.tuple #[.string (cutA s a b),.string (cutZ s a b),.bool (cutB s a b)])/\∃n,w'=w.drewN n:=by
 obtain⟨m,hm⟩:=hM
 exact Tryz.strings_Cut s ⟨#[a,b]⟩ m w hs hm
theorem jkh(y m:Int)(s:ByteArray)(w:World)(hT:Tab w)(hM:Mx w)(hz:s.size<=1048576):
  Cl 189 #[.agg #[iv y,iv m,.string s]] w fun e w'=>e=.returned (iv (jfz y m s))/\Bw w w':=by
 have hC:=fun w (h:Mx w)=>jr8 s 62 61 w h (by omega)
 have hN:=fun w (h:Tab w)=>jdp y m s (cutZ s 62 61) w h (by have:=jxp s 62 61;unfold maxLen;omega)
 have hD:=fun w=>jcb (cutA s 62 61) w
 have hF:=fun w=>jhb (wdN (cutA s 62 61)) (nbV y m (cutZ s 62 61)) w (jc6 _) (jrl _ _ _)
 unfold jfz
 generalize wdN (cutA s 62 61)=v at *
 generalize nbV y m (cutZ s 62 61)=k at *
 generalize cutA s 62 61=sa at *
 generalize cutZ s 62 61=sz at *
 cases hb:cutB s 62 61
 ·rw[hb]at hC
  clear hb
  simp only[Bool.false_eq_true,if_false]
  unfold Cl;go_in
  go_wp2_with fail
  refine(hC _ (hM.alloc _)).mono ?_
  rintro e w1 ⟨rfl,n,rfl⟩
  go_wp2
  go_ret
  exact⟨rfl,jle _ _ _⟩
 ·rw[hb]at hC
  clear hb
  simp only[if_true]
  generalize jff v k=r at *
  unfold Cl;go_in
  go_wp2_with fail
  refine(hC _ (hM.alloc _)).mono ?_
  rintro e w1 ⟨rfl,n,rfl⟩
  go_wp2_with fail
  have ki:=jle w (.cells #[iv y,iv m,.string s] 225) n
  have uJ:=hT.of_below ki
  have k0:=cell_regrown (w:=(w.alloc (.cells #[iv y,iv m,.string s] 225)).drewN n) (a:=(ad w.heap.size 0)) (v:=iv y) (by simp)
  have k1:=cell_regrown (w:=(w.alloc (.cells #[iv y,iv m,.string s] 225)).drewN n) (a:=(ad w.heap.size 1)) (v:=iv m) (by simp)
  have k2:=cell_regrown (w:=(w.alloc (.cells #[iv y,iv m,.string s] 225)).drewN n) (a:=(ad w.heap.size 2)) (v:=.string s) (by simp)
  generalize (w.alloc (.cells #[iv y,iv m,.string s] 225)).drewN n=W at *
  have cD:=rgS (W:=W) hD
  have cF:=rgS (W:=W) hF
  have cN:=rgA uJ hN
  refine wp_region_quiet_below (by kernel_rfl) (by kernel_rfl) ?_
  repeat (quiet_step (first|(go_at_call 218;exact cD _ _)|(go_at_call 215;exact cN _ _)|(go_at_call 221;exact cF _ _)))
  refine wpQuiet_nil ?_
  intro _ bM
  obtain⟨⟨dq,aQ⟩,aO⟩:=bM
  subst aO
  go_wp2
  go_ret
  exact⟨rfl,ki.trans ((below_regrown _ dq aQ).mono ki.size)⟩
theorem jub(w:World)(a b:Obj):Bw w ((w.alloc a).alloc b).drew:=
 below_drewN ((qal _ a).alloc (by simp) b) 1
theorem jmc(y m:Int)(s:ByteArray)(w:World)(hT:Tab w)(hM:Mx w)(hz:s.size<=1048576):
  Cl 190 #[.agg #[iv y,iv m,.string s]] w fun e w'=>e=.returned (iv (jj7 y m s))/\Bw w w':=by
 have hC:=fun w (h:Mx w)=>jr8 s 60 61 w h (by omega)
 have hN:=fun w (h:Tab w)=>jdp y m s (cutZ s 60 61) w h (by have:=jxp s 60 61;unfold maxLen;omega)
 have hD:=fun w=>jcb (cutA s 60 61) w
 have hF:=fun w=>jdt (wdN (cutA s 60 61)) (nbV y m (cutZ s 60 61)) w (jc6 _) (jrl _ _ _)
 unfold jj7
 generalize wdN (cutA s 60 61)=v at *
 generalize nbV y m (cutZ s 60 61)=k at *
 generalize cutA s 60 61=sa at *
 generalize cutZ s 60 61=sz at *
 cases hb:cutB s 60 61
 ·rw[hb]at hC
  clear hb
  simp only[Bool.false_eq_true,if_false]
  unfold Cl;go_in
  go_wp2_with fail
  refine(hC _ (hM.alloc _)).mono ?_
  rintro e w1 ⟨rfl,n,rfl⟩
  go_wp2
  go_ret
  exact⟨rfl,jle _ _ _⟩
 ·rw[hb]at hC
  clear hb
  simp only[if_true]
  generalize jcg v k=r at *
  unfold Cl;go_in
  go_wp2_with fail
  refine(hC _ (hM.alloc _)).mono ?_
  rintro e w1 ⟨rfl,n,rfl⟩
  go_wp2_with fail
  have ki:=jle w (.cells #[iv y,iv m,.string s] 225) n
  have uJ:=hT.of_below ki
  have k0:=cell_regrown (w:=(w.alloc (.cells #[iv y,iv m,.string s] 225)).drewN n) (a:=(ad w.heap.size 0)) (v:=iv y) (by simp)
  have k1:=cell_regrown (w:=(w.alloc (.cells #[iv y,iv m,.string s] 225)).drewN n) (a:=(ad w.heap.size 1)) (v:=iv m) (by simp)
  have k2:=cell_regrown (w:=(w.alloc (.cells #[iv y,iv m,.string s] 225)).drewN n) (a:=(ad w.heap.size 2)) (v:=.string s) (by simp)
  generalize (w.alloc (.cells #[iv y,iv m,.string s] 225)).drewN n=W at *
  have cD:=rgS (W:=W) hD
  have cF:=rgS (W:=W) hF
  have cN:=rgA uJ hN
  refine wp_region_quiet_below (by kernel_rfl) (by kernel_rfl) ?_
  repeat (quiet_step (first|(go_at_call 218;exact cD _ _)|(go_at_call 215;exact cN _ _)|(go_at_call 217;exact cF _ _)))
  refine wpQuiet_nil ?_
  intro _ bM
  obtain⟨⟨dq,aQ⟩,aO⟩:=bM
  subst aO
  go_wp2
  go_ret
  exact⟨rfl,ki.trans ((below_regrown _ dq aQ).mono ki.size)⟩
def laR(s:ByteArray):ByteArray:=⟨(Lib.trimPrefix s.data.toList [108,97,115,116]).toArray⟩
def laB(s:ByteArray):Bool:=Lib.hasPrefix s.data.toList [108,97,115,116]
def lomV(y m:Int)(s:ByteArray):Int:=if laB s=true then jcg (wdN (laR s)) (num y m (Cal.dim y m))else -1000000
theorem jbp{y m:Int}(h:ymB y m=true):vldB y m (Cal.dim y m)=true:=by
 have ⟨a,b,c,d⟩:=jfi h
 have:=Cal.dim_bd y m
 exact jfj ⟨a,b,c,d,by omega,by omega⟩
theorem jhg(y m:Int)(s:ByteArray)(w:World)(hT:Tab w)(hy:ymB y m=true):
  Cl 188 #[.agg #[iv y,iv m,.string s]] w fun e w'=>e=.returned (iv (lomV y m s))/\Bw w w':=by
 have hC:=fun w=>Tryz.strings_CutPrefix s ⟨#[108,97,115,116]⟩ w
 have er:(⟨(Lib.trimPrefix s.data.toList (⟨#[108,97,115,116]⟩:ByteArray).data.toList).toArray⟩:ByteArray)=laR s:=rfl
 have eb:Lib.hasPrefix s.data.toList (⟨#[108,97,115,116]⟩:ByteArray).data.toList=laB s:=rfl
 rw[er,eb]at hC
 have ⟨y1,y2,m1,m2⟩:=jfi hy
 have hM:=fun w (h:Tab w)=>jbs y m w h y1 y2 m1 m2
 have hX:=fun w (h:Tab w)=>je5 y m (Cal.dim y m) w h (jbp hy)
 have hD:=fun w=>jcb (laR s) w
 have nb:=jb5 (jbp hy)
 have hF:=fun w=>jdt (wdN (laR s)) (num y m (Cal.dim y m)) w (jc6 _) (.inr nb)
 unfold lomV
 clear er eb hy nb y1 y2 m1 m2
 generalize jcg (wdN (laR s)) (num y m (Cal.dim y m))=r at *
 generalize wdN (laR s)=v at *
 generalize num y m (Cal.dim y m)=k at *
 generalize Cal.dim y m=d at *
 generalize laR s=sr at *
 cases hb:laB s
 ·rw[hb]at hC
  clear hb
  simp only[Bool.false_eq_true,if_false]
  unfold Cl;go_in
  go_wp2_with (go_at_call 216;refine(hC _).mono ?_;rintro e w' ⟨rfl,rfl⟩)
  go_ret
  exact⟨rfl,qal _ _⟩
 ·rw[hb]at hC
  clear hb
  simp only[if_true]
  unfold Cl;go_in
  go_wp2_with fail
  refine(hC _).mono ?_
  rintro e w1 ⟨rfl,rfl⟩
  go_upto_region 4 with fail
  go_cut [5]from 14 to 23 (fun x wx=>x=.pointer (some (ad (w.heap.size+1) 0))/\wx=((w.alloc (.cells #[iv y,iv m,.string s] 225)).alloc (.cells #[iv y,iv m,iv d] 191)).drew)
  case first=>
   go_region_held3 (fun w'=>w'.cell? (ad w.heap.size 0)=some (iv y)/\w'.cell? (ad w.heap.size 1)=some (iv m)) (go_keep) ((go_at_call 186;refine(hM _ ?_).mono ?_;(first|exact hT.alloc _|exact(hT.alloc _).alloc _);rintro e w' ⟨rfl,rfl⟩))
   all_goals
    go_wp2
    go_meet
    exact⟨rfl,rfl⟩
  case rest=>
   obtain⟨rfl,rfl⟩:=hcut
   go_wp2_with fail
   have ki:=jub w (.cells #[iv y,iv m,.string s] 225) (.cells #[iv y,iv m,iv d] 191)
   have uJ:=hT.of_below ki
   have k0:=cell_regrown (w:=((w.alloc (.cells #[iv y,iv m,.string s] 225)).alloc (.cells #[iv y,iv m,iv d] 191)).drew) (a:=(ad (w.heap.size+1) 0)) (v:=iv y) (by simp)
   have k1:=cell_regrown (w:=((w.alloc (.cells #[iv y,iv m,.string s] 225)).alloc (.cells #[iv y,iv m,iv d] 191)).drew) (a:=(ad (w.heap.size+1) 1)) (v:=iv m) (by simp)
   have k2:=cell_regrown (w:=((w.alloc (.cells #[iv y,iv m,.string s] 225)).alloc (.cells #[iv y,iv m,iv d] 191)).drew) (a:=(ad (w.heap.size+1) 2)) (v:=iv d) (by simp)
   generalize ((w.alloc (.cells #[iv y,iv m,.string s] 225)).alloc (.cells #[iv y,iv m,iv d] 191)).drew=W at *
   have cD:=rgS (W:=W) hD
   have cF:=rgS (W:=W) hF
   have cX:=rgA uJ hX
   refine wp_region_quiet_below (by kernel_rfl) (by kernel_rfl) ?_
   repeat (quiet_step (first|(go_at_call 218;exact cD _ _)|(go_at_call 219;exact cX _ _)|(go_at_call 217;exact cF _ _)))
   refine wpQuiet_nil ?_
   intro _ bM
   obtain⟨⟨dq,aQ⟩,aO⟩:=bM
   subst aO
   go_wp2
   go_ret
   exact⟨rfl,ki.trans ((below_regrown _ dq aQ).mono ki.size)⟩
def orV(a b c d:Int):Int:=if a= -1000000 then(if b= -1000000 then(if c= -1000000 then d else c)else b)else a
def onV(y m:Int)(s:ByteArray):Int:=orV (nbV y m s) (lomV y m s) (jfz y m s) (jj7 y m s)
theorem jog(y m:Int)(s:ByteArray)(w:World)(hT:Tab w)(hM:Mx w)(hy:ymB y m=true)(hz:s.size<=1048576):
  Cl 162 #[.agg #[iv y,iv m,.string s]] w fun e w'=>e=.returned (iv (onV y m s))/\Bw w w':=by
 have ⟨y1,y2,m1,m2⟩:=jfi hy
 have hD:=fun w (h:Tab w)=>jbs y m w h y1 y2 m1 m2
 have dm:=Cal.dim_bd y m
 have h0:=fun w (h:Tab w)=>jjf y m s w h (by unfold maxLen;omega)
 have h1:=fun w (h:Tab w)=>jhg y m s w h hy
 have h2:=fun w (h:Tab w) (k:Mx w)=>jkh y m s w h k hz
 have h3:=fun w (h:Tab w) (k:Mx w)=>jmc y m s w h k hz
 have i0:∀(w:World) (x0 x1 x2 x3:Value),(Instr.index 249 (.agg #[x0,x1,x2,x3]) (iv 0)).run Tryz.prog w=.ok x0 w:=fun _ _ _ _ _=>by kernel_rfl
 have i1:∀(w:World) (x0 x1 x2 x3:Value),(Instr.index 249 (.agg #[x0,x1,x2,x3]) (iv 1)).run Tryz.prog w=.ok x1 w:=fun _ _ _ _ _=>by kernel_rfl
 have i2:∀(w:World) (x0 x1 x2 x3:Value),(Instr.index 249 (.agg #[x0,x1,x2,x3]) (iv 2)).run Tryz.prog w=.ok x2 w:=fun _ _ _ _ _=>by kernel_rfl
 have i3:∀(w:World) (x0 x1 x2 x3:Value),(Instr.index 249 (.agg #[x0,x1,x2,x3]) (iv 3)).run Tryz.prog w=.ok x3 w:=fun _ _ _ _ _=>by kernel_rfl
 unfold onV
 generalize nbV y m s=d0 at *
 generalize lomV y m s=d1 at *
 generalize jfz y m s=d2 at *
 generalize jj7 y m s=d3 at *
 generalize Cal.dim y m=dd at *
 have az:(dd==0)=false:=by simp;omega
 clear y1 y2 m1 m2 hy
 unfold Cl;go_in
 go_wp2_with fail
 refine(hD _ (hT.alloc _)).mono ?_
 rintro e w' ⟨rfl,rfl⟩
 go_wp2_with fail
 refine wp_loop_rounds 5 ?_
 rw[rounds_succ]
 go_wp2_with fail
 refine(h0 _ ((hT.alloc _).alloc _)).mono ?_
 rintro e w1 ⟨rfl,hb1⟩
 have aj:=((qal w _).alloc (by simp) _).trans (hb1.mono (by simp;omega))
 obtain⟨aX,_⟩:=jaf hb1
 by_cases e0:d0= -1000000
 case neg=>
  have g0:(d0 != -1000000)=true:=by simpa using e0
  go_wp2
  go_ret
  exact⟨ret_int (by simp[orV,e0]),aj⟩
 subst e0
 have dG:=hT.of_below aj
 have gR:=hM.of_below aj
 have q0:w1.cell? (ad w.heap.size 0)=some (iv y):=by rw[aX _ _ (by simp;omega)];simp
 have q1:w1.cell? (ad w.heap.size 1)=some (iv m):=by rw[aX _ _ (by simp;omega)];simp
 have q2:w1.cell? (ad w.heap.size 2)=some (.string s):=by rw[aX _ _ (by simp;omega)];simp
 have hlt1:w.heap.size<w1.heap.size:=qbl q0
 clear hb1 aX
 go_wp2_with fail
 rw[rounds_succ]
 go_wp2_with fail
 refine(h1 _ dG).mono ?_
 rintro e w2 ⟨rfl,ac⟩
 have an:=qtr aj ac
 obtain⟨cU,_⟩:=jaf ac
 by_cases e1:d1= -1000000
 case neg=>
  have g0:(d1 != -1000000)=true:=by simpa using e1
  go_wp2
  go_ret
  exact⟨ret_int (by simp[orV,e1]),an⟩
 subst e1
 have eO:=hT.of_below an
 have gS:=hM.of_below an
 have p0:w2.cell? (ad w.heap.size 0)=some (iv y):=by rw[cU _ _ hlt1];exact q0
 have p1:w2.cell? (ad w.heap.size 1)=some (iv m):=by rw[cU _ _ hlt1];exact q1
 have p2:w2.cell? (ad w.heap.size 2)=some (.string s):=by rw[cU _ _ hlt1];exact q2
 have hlt2:w.heap.size<w2.heap.size:=qbl p0
 clear ac cU q0 q1 q2
 go_wp2_with fail
 rw[rounds_succ]
 go_wp2_with fail
 refine(h2 _ eO gS).mono ?_
 rintro e w3 ⟨rfl,ar⟩
 have ax:=qtr an ar
 obtain⟨fw,_⟩:=jaf ar
 by_cases e2:d2= -1000000
 case neg=>
  have g0:(d2 != -1000000)=true:=by simpa using e2
  go_wp2
  go_ret
  exact⟨ret_int (by simp[orV,e2]),ax⟩
 subst e2
 have j5:=hT.of_below ax
 have gT:=hM.of_below ax
 have q0:w3.cell? (ad w.heap.size 0)=some (iv y):=by rw[fw _ _ hlt2];exact p0
 have q1:w3.cell? (ad w.heap.size 1)=some (iv m):=by rw[fw _ _ hlt2];exact p1
 have q2:w3.cell? (ad w.heap.size 2)=some (.string s):=by rw[fw _ _ hlt2];exact p2
 clear ar fw p0 p1 p2
 go_wp2_with fail
 rw[rounds_succ]
 go_wp2_with fail
 refine(h3 _ j5 gT).mono ?_
 rintro e w4 ⟨rfl,aD⟩
 have aR:=qtr ax aD
 by_cases e3:d3= -1000000
 case neg=>
  have g0:(d3 != -1000000)=true:=by simpa using e3
  go_wp2
  go_ret
  exact⟨ret_int (by simp[orV]),aR⟩
 subst e3
 go_wp2_with fail
 rw[rounds_succ]
 go_wp2
 go_ret
 exact⟨ret_int (by simp[orV]),aR⟩
theorem joh(y m:Int)(s:ByteArray)(w:World)(hT:Tab w)(hy:ymB y m=false):
  Cl 162 #[.agg #[iv y,iv m,.string s]] w fun e w'=>e=.returned (iv (-1000000))/\Bw w w':=by
 have hD:=fun w (h:Tab w)=>je4 y m w h
 rw[jl4 hy]at hD
 unfold Cl;go_in
 go_wp2_with fail
 refine(hD _ (hT.alloc _)).mono ?_
 rintro e w' ⟨rfl,rfl⟩
 go_wp2
 go_ret
 exact⟨rfl,qal _ _⟩
def jbj(y m:Int)(s:ByteArray):Int:=if ymB y m=true then onV y m s else -1000000
theorem joi(y m:Int)(s:ByteArray)(w:World)(hT:Tab w)(hM:Mx w)(hz:s.size<=1048576):
  Cl 162 #[.agg #[iv y,iv m,.string s]] w fun e w'=>e=.returned (iv (jbj y m s))/\Bw w w':=by
 unfold jbj
 cases hy:ymB y m
 ·exact joh y m s w hT hy
 ·exact jog y m s w hT hM hy hz
theorem jtv(y m:Int)(s:ByteArray)(w:World)(hT:Tab w)(hM:Mx w)(hz:s.size<=8000):
  Cl 262 #[iv y,iv m,.string s] w fun e w'=>e=.returned (iv (jbj y m s))/\Bw w w':=by
 have hX:=fun w (h:Tab w) (k:Mx w)=>joi y m s w h k (by omega)
 generalize jbj y m s=r at *
 unfold Cl;go_in
 go_wp2_with fail
 refine(hX _ hT hM).mono ?_
 rintro e w1 ⟨rfl,hb⟩
 go_wp2
 go_ret
 exact⟨rfl,hb⟩
def aB(s:ByteArray):Bool:=decide (s.size=7)&&((s.extract 0 4).toList==[108,97,115,116])
def bB(c:UInt8)(s:ByteArray):Bool:=decide (5<s.size)&&((s.extract 3 5).toList==[c,61])
def moV(y m:Int)(s:ByteArray):Int:=if aB s=true/\wdN (s.extract 4 7)≠ -1 then jcg (wdN (s.extract 4 7)) (num y m (Cal.dim y m))else if bB 62 s=true then jff (wdN (s.extract 0 3)) (nbV y m (s.extract 5 s.size))else if bB 60 s=true then jcg (wdN (s.extract 0 3)) (nbV y m (s.extract 5 s.size))else nbV y m s
theorem jvz(y m k:Int):num y m k=num y m 1+k-1:=by unfold num;omega
theorem jlj(t:ByteArray): -1<=twoN t/\twoN t<=999999999:=by
 unfold twoN
 split
 ·cases hd:digs t
  ·rw[jzn hd];omega
  ·have:=jih (s:=t) (k:=t.size) (by omega) (j3v hd).2
   rw[j2a hd];omega
 ·omega
theorem jnn{y m:Int}(h:ymB y m=true)(t:ByteArray):nbV y m t=if 1<=twoN t/\twoN t<=Cal.dim y m then num y m 1+twoN t-1 else -1000000:=by
 have ⟨a,b,c,d⟩:=jfi h
 unfold nbV nbB twoN
 by_cases h2:t.size<=2
 ·rw[if_pos h2,dte h2]
  cases hd:digs t
  ·rw[jzn hd];simp
  ·rw[j2a hd,j3t hd, <- jvz]
   cases hv:vldB y m (jda t t.size)
   ·rw[if_neg (by simp),if_neg]
    intro hn
    exact vld_f hv ⟨a,b,c,d,hn.1,hn.2⟩
   ·have:=jyc hv
    rw[if_pos (by simp),if_pos ⟨this.2.2.2.2.1,this.2.2.2.2.2⟩]
 ·rw[if_neg h2];simp[h2]
theorem jce(y m:Int):num y m (Cal.dim y m)=num y m 1+Cal.dim y m-1:=jvz _ _ _
theorem jeo{s:ByteArray}{a b:Nat}{l:List UInt8}(hb:b<=s.size)(h:(s.extract a b).toList=l){i:Nat}{c:UInt8}(hi:l[i]? =some c):jae s (a+i)=(c.toNat:Int):=by
 have e:s.extract a b=S l:=by
  apply ByteArray.ext
  apply Array.ext'
  rw[ByteArray.toList_eq]at h
  simpa [S]using h
 obtain⟨hlt,_⟩:=lgs hi
 have hz:(s.extract a b).size=l.length:=by rw[e,jxy]
 rw[ByteArray.size_extract]at hz
 rw[<- jf2 hb (by omega),e]
 exact jf3 hi
theorem jc4{s:ByteArray}{c:UInt8}(h:bB c s=true):5<s.size/\jae s 3=(c.toNat:Int)/\jae s 4=61:=by
 unfold bB at h
 simp only[bat,decide_eq_true_eq,beq_iff_eq]at h
 exact⟨h.1,jeo (a:=3) (by omega) h.2 (i:=0) rfl,jeo (a:=3) (by omega) h.2 (i:=1) rfl⟩
theorem jjw{s:ByteArray}(h:aB s=true):s.size=7/\jae s 0=108/\jae s 1=97/\jae s 2=115/\jae s 3=116:=by
 unfold aB at h
 simp only[bat,decide_eq_true_eq,beq_iff_eq]at h
 exact⟨h.1,jeo (a:=0) (by omega) h.2 (i:=0) rfl,jeo (a:=0) (by omega) h.2 (i:=1) rfl,jeo (a:=0) (by omega) h.2 (i:=2) rfl,jeo (a:=0) (by omega) h.2 (i:=3) rfl⟩
theorem j1x(y m:Int)(s:ByteArray)(w:World)(hy:ymB y m=true)(ha:aB s=true)(hw:wdN (s.extract 4 7)≠ -1):
  Cl 90 #[iv y,iv m,.string s] w fun e w'=>e=.returned (iv (jcg (wdN (s.extract 4 7)) (num y m (Cal.dim y m))))/\Bw w w':=by
 have ⟨y1,y2,m1,m2⟩:=jfi hy
 have hM:=fun w=>jbd y m w y1 y2
 have hF:=fun w=>jb1 y m 1 w y1 y2 m1 m2 (by omega) (by omega)
 have dm:=Cal.dim_bd y m
 have nl:=jb5 (jbp hy)
 have nf:=jb5 (jfj (y:=y) (m:=m) (d:=1) ⟨y1,y2,m1,m2,by omega,by omega⟩)
 rw[jce]at nl
 have hN:=fun w=>jcp (s.extract 4 7) w
 have hv:0<=wdN (s.extract 4 7)/\wdN (s.extract 4 7)<7:=by have:=jc6 (s.extract 4 7);omega
 have hz:=(jjw ha).1
 unfold aB at ha
 simp only[bat]at ha
 have gZ:=ha.2
 have er:jcg (wdN (s.extract 4 7)) (num y m (Cal.dim y m))=num y m 1+Cal.dim y m-1-((num y m 1+Cal.dim y m-1+719163)%7-wdN (s.extract 4 7)+7)%7:=by
  unfold jcg;rw[jce,if_neg (by omega)]
 have HR:=hid er
 have hW:=fun w=>jct (num y m 1+Cal.dim y m-1) w (by omega) (by omega)
 clear ha hw er hy y1 y2 m1 m2
 generalize jcg (wdN (s.extract 4 7)) (num y m (Cal.dim y m))=r at *
 generalize wdN (s.extract 4 7)=v at *
 generalize Cal.dim y m=dd at *
 generalize num y m 1=q at *
 have hr:0<=(q+dd-1+719163)%7/\(q+dd-1+719163)%7<7:=by omega
 have jm:((s.size:Int)==7)=true:=by simp;omega
 generalize (q+dd-1+719163)%7=u at *
 unfold Cl;go_in
 go_wp2_with fail
 refine(hM _).mono ?_
 rintro e w0 ⟨rfl,rfl⟩
 go_wp2_with fail
 refine(hF _).mono ?_
 rintro e w1 ⟨rfl,hb1⟩
 go_wp2_with fail
 refine(hN _).mono ?_
 rintro e w2 ⟨rfl,ac⟩
 have an:=qtr hb1 ac
 go_wp2_with fail
 refine(hW _).mono ?_
 rintro e w3 ⟨rfl,rfl⟩
 go_wp2
 go_ret
 exact⟨ret_int (by rw[HR.out];omega),an⟩
theorem j0s{s:ByteArray}(h:aB s=true)(c:UInt8)(hc:c.toNat≠116):bB c s=false:=by
 cases hb:bB c s
 ·rfl
 ·have h1:=(jjw h).2.2.2.2
  have h2:=(jc4 hb).2.1
  rw[h1]at h2
  omega
theorem jhy{s:ByteArray}(h:2<s.size):twoN s= -1:=by unfold twoN;rw[if_neg (by omega)]
theorem j0o{s:ByteArray}{c:UInt8}(h5:5<s.size)(h:bB c s=false):((s.extract 3 5).toList==[c,61])=false:=by
 unfold bB at h;rw[dte h5]at h;simpa using h
theorem jvw(y m:Int)(s:ByteArray)(w:World)(hy:ymB y m=true)(ha:aB s=true)(hw:wdN (s.extract 4 7)= -1):
  Cl 90 #[iv y,iv m,.string s] w fun e w'=>e=.returned (iv (-1000000))/\Bw w w':=by
 have ⟨y1,y2,m1,m2⟩:=jfi hy
 have hM:=fun w=>jbd y m w y1 y2
 have hF:=fun w=>jb1 y m 1 w y1 y2 m1 m2 (by omega) (by omega)
 have dm:=Cal.dim_bd y m
 have nl:=jb5 (jbp hy)
 have nf:=jb5 (jfj (y:=y) (m:=m) (d:=1) ⟨y1,y2,m1,m2,by omega,by omega⟩)
 rw[jce]at nl
 have hN:=fun w=>jcp (s.extract 4 7) w
 rw[hw]at hN
 have hz:=(jjw ha).1
 have g1:=j0o (c:=62) (by omega) (j0s ha 62 (by decide))
 have g2:=j0o (c:=60) (by omega) (j0s ha 60 (by decide))
 unfold aB at ha
 simp only[bat]at ha
 have gZ:=ha.2
 have hT:=fun w=>jcu s w (by unfold maxLen;omega)
 rw[jhy (by omega)]at hT
 clear ha hw hy y1 y2 m1 m2
 generalize Cal.dim y m=dd at *
 generalize num y m 1=q at *
 have jm:((s.size:Int)==7)=true:=by simp;omega
 unfold Cl;go_in
 go_wp2_with fail
 refine(hM _).mono ?_
 rintro e w0 ⟨rfl,rfl⟩
 go_wp2_with fail
 refine(hF _).mono ?_
 rintro e w1 ⟨rfl,hb1⟩
 go_wp2_with fail
 refine(hN _).mono ?_
 rintro e w2 ⟨rfl,ac⟩
 have an:=qtr hb1 ac
 go_wp2_with fail
 refine(hT _).mono ?_
 rintro e w3 ⟨rfl,rfl⟩
 go_wp2
 go_ret
 exact⟨rfl,an⟩
theorem on_ge(y m:Int)(s:ByteArray)(w:World)(hy:ymB y m=true)(hs:s.size<=1048576)(ha:aB s=false)(hb:bB 62 s=true)(R:Int)(hR:((wdN (s.extract 0 3)= -1\/twoN (s.extract 5 s.size)<1\/Cal.dim y m<twoN (s.extract 5 s.size))->R= -1000000)/\(wdN (s.extract 0 3)≠ -1->1<=twoN (s.extract 5 s.size)->twoN (s.extract 5 s.size)<=Cal.dim y m->R=num y m 1+twoN (s.extract 5 s.size)-1+(wdN (s.extract 0 3)-(num y m 1+twoN (s.extract 5 s.size)-1+719163)%7+7)%7)):
  Cl 90 #[iv y,iv m,.string s] w fun e w'=>e=.returned (iv (R))/\Bw w w':=by
 have ⟨y1,y2,m1,m2⟩:=jfi hy
 have hM:=fun w=>jbd y m w y1 y2
 have hF:=fun w=>jb1 y m 1 w y1 y2 m1 m2 (by omega) (by omega)
 have dm:=Cal.dim_bd y m
 have nl:=jb5 (jbp hy)
 have nf:=jb5 (jfj (y:=y) (m:=m) (d:=1) ⟨y1,y2,m1,m2,by omega,by omega⟩)
 rw[jce]at nl
 have hN:=fun w=>jcp (s.extract 0 3) w
 have hT:=fun w=>jcu (s.extract 5 s.size) w (by rw[ByteArray.size_extract];unfold maxLen;omega)
 have kb:=jlj (s.extract 5 s.size)
 have vb:=jc6 (s.extract 0 3)
 have h5:=(jc4 hb).1
 have fw:((s[3].toNat:Int)==62)=true:=by rw[jai s 3 (by omega),(jc4 hb).2.1];rfl
 have g1:((s.extract 3 5).toList==[62,61])=true:=by unfold bB at hb;simp only[bat]at hb;exact hb.2
 clear hb
 clear hy y1 y2 m1 m2
 generalize Cal.dim y m=dd at *
 generalize num y m 1=q at *
 generalize wdN (s.extract 0 3)=v at *
 generalize twoN (s.extract 5 s.size)=k at *
 have HR:=hid hR
 clear hR
 unfold Cl;go_in
 go_wp2_with fail
 refine(hM _).mono ?_
 rintro e w0 ⟨rfl,rfl⟩
 go_wp2_with fail
 refine(hF _).mono ?_
 rintro e w1 ⟨rfl,hb1⟩
 go_upto_region 3 with fail
 go_cut [29]from 22 to 29 (fun x wx=>x=.bool false/\wx=w1)
 case first=>
  by_cases hz:s.size=7
  ·have jm:((s.size:Int)==7)=true:=by simp;omega
   have gZ:((s.extract 0 4).toList==[108,97,115,116])=false:=by unfold aB at ha;rw[dte hz]at ha;simpa using ha
   clear ha
   go_wp2
   go_meet
   exact⟨by simp,rfl⟩
  ·have jm:((s.size:Int)==7)=false:=by simp;omega
   go_wp2
   go_meet
   exact⟨rfl,rfl⟩
 case rest=>
  obtain⟨rfl,rfl⟩:=hcut
  go_wp2_with fail
  refine(hN _).mono ?_
  rintro e w2 ⟨rfl,ac⟩
  have an:=qtr hb1 ac
  go_wp2_with fail
  refine(hT _).mono ?_
  rintro e w3 ⟨rfl,rfl⟩
  by_cases hv:v= -1
  ·obtain rfl:R= -1000000:=HR.out.1 (.inl hv)
   subst hv
   clear HR
   go_wp2
   go_ret
   exact⟨rfl,an⟩
  have eQ:0<=v/\v<7:=by omega
  by_cases hk:k<1
  ·obtain rfl:R= -1000000:=HR.out.1 (.inr (.inl hk))
   clear HR
   go_wp2
   go_ret
   exact⟨rfl,an⟩
  by_cases fy:dd<k
  ·obtain rfl:R= -1000000:=HR.out.1 (.inr (.inr fy))
   clear HR
   go_wp2
   go_ret
   exact⟨rfl,an⟩
  have hW:=fun w=>jct (q+k-1) w (by omega) (by omega)
  have aM:=HR.out.2 hv (by omega) (by omega)
  clear HR
  have hr:0<=(q+k-1+719163)%7/\(q+k-1+719163)%7<7:=by omega
  generalize (q+k-1+719163)%7=u at *
  have lh:=hid aM
  clear aM
  go_wp2_with fail
  refine(hW _).mono ?_
  rintro e w4 ⟨rfl,rfl⟩
  go_wp2
  go_ret
  exact⟨ret_int (by rw[lh.out];omega),an⟩
theorem on_le(y m:Int)(s:ByteArray)(w:World)(hy:ymB y m=true)(hs:s.size<=1048576)(ha:aB s=false)(hb:bB 60 s=true)(R:Int)(hR:((wdN (s.extract 0 3)= -1\/twoN (s.extract 5 s.size)<1\/Cal.dim y m<twoN (s.extract 5 s.size))->R= -1000000)/\(wdN (s.extract 0 3)≠ -1->1<=twoN (s.extract 5 s.size)->twoN (s.extract 5 s.size)<=Cal.dim y m->R=num y m 1+twoN (s.extract 5 s.size)-1-((num y m 1+twoN (s.extract 5 s.size)-1+719163)%7-wdN (s.extract 0 3)+7)%7)):
  Cl 90 #[iv y,iv m,.string s] w fun e w'=>e=.returned (iv (R))/\Bw w w':=by
 have ⟨y1,y2,m1,m2⟩:=jfi hy
 have hM:=fun w=>jbd y m w y1 y2
 have hF:=fun w=>jb1 y m 1 w y1 y2 m1 m2 (by omega) (by omega)
 have dm:=Cal.dim_bd y m
 have nl:=jb5 (jbp hy)
 have nf:=jb5 (jfj (y:=y) (m:=m) (d:=1) ⟨y1,y2,m1,m2,by omega,by omega⟩)
 rw[jce]at nl
 have hN:=fun w=>jcp (s.extract 0 3) w
 have hT:=fun w=>jcu (s.extract 5 s.size) w (by rw[ByteArray.size_extract];unfold maxLen;omega)
 have kb:=jlj (s.extract 5 s.size)
 have vb:=jc6 (s.extract 0 3)
 have h5:=(jc4 hb).1
 have fw:((s[3].toNat:Int)==62)=false:=by rw[jai s 3 (by omega),(jc4 hb).2.1];rfl
 have g2:((s.extract 3 5).toList==[60,61])=true:=by unfold bB at hb;simp only[bat]at hb;exact hb.2
 have g1:((s.extract 3 5).toList==[62,61])=false:=by
  rw[beq_iff_eq]at g2
  rw[g2];rfl
 clear hb
 clear hy y1 y2 m1 m2
 generalize Cal.dim y m=dd at *
 generalize num y m 1=q at *
 generalize wdN (s.extract 0 3)=v at *
 generalize twoN (s.extract 5 s.size)=k at *
 have HR:=hid hR
 clear hR
 unfold Cl;go_in
 go_wp2_with fail
 refine(hM _).mono ?_
 rintro e w0 ⟨rfl,rfl⟩
 go_wp2_with fail
 refine(hF _).mono ?_
 rintro e w1 ⟨rfl,hb1⟩
 go_upto_region 3 with fail
 go_cut [29]from 22 to 29 (fun x wx=>x=.bool false/\wx=w1)
 case first=>
  by_cases hz:s.size=7
  ·have jm:((s.size:Int)==7)=true:=by simp;omega
   have gZ:((s.extract 0 4).toList==[108,97,115,116])=false:=by unfold aB at ha;rw[dte hz]at ha;simpa using ha
   clear ha
   go_wp2
   go_meet
   exact⟨by simp,rfl⟩
  ·have jm:((s.size:Int)==7)=false:=by simp;omega
   go_wp2
   go_meet
   exact⟨rfl,rfl⟩
 case rest=>
  obtain⟨rfl,rfl⟩:=hcut
  go_wp2_with fail
  refine(hN _).mono ?_
  rintro e w2 ⟨rfl,ac⟩
  have an:=qtr hb1 ac
  go_wp2_with fail
  refine(hT _).mono ?_
  rintro e w3 ⟨rfl,rfl⟩
  by_cases hv:v= -1
  ·obtain rfl:R= -1000000:=HR.out.1 (.inl hv)
   subst hv
   clear HR
   go_wp2
   go_ret
   exact⟨rfl,an⟩
  have eQ:0<=v/\v<7:=by omega
  by_cases hk:k<1
  ·obtain rfl:R= -1000000:=HR.out.1 (.inr (.inl hk))
   clear HR
   go_wp2
   go_ret
   exact⟨rfl,an⟩
  by_cases fy:dd<k
  ·obtain rfl:R= -1000000:=HR.out.1 (.inr (.inr fy))
   clear HR
   go_wp2
   go_ret
   exact⟨rfl,an⟩
  have hW:=fun w=>jct (q+k-1) w (by omega) (by omega)
  have aM:=HR.out.2 hv (by omega) (by omega)
  clear HR
  have hr:0<=(q+k-1+719163)%7/\(q+k-1+719163)%7<7:=by omega
  generalize (q+k-1+719163)%7=u at *
  have lh:=hid aM
  clear aM
  go_wp2_with fail
  refine(hW _).mono ?_
  rintro e w4 ⟨rfl,rfl⟩
  go_wp2
  go_ret
  exact⟨ret_int (by rw[lh.out];omega),an⟩
theorem jzb(y m:Int)(s:ByteArray)(w:World)(hy:ymB y m=true)(hs:s.size<=1048576)(ha:aB s=false)(h5:5<s.size)(hb1:bB 62 s=false)(ac:bB 60 s=false):
  Cl 90 #[iv y,iv m,.string s] w fun e w'=>e=.returned (iv (-1000000))/\Bw w w':=by
 have ⟨y1,y2,m1,m2⟩:=jfi hy
 have hM:=fun w=>jbd y m w y1 y2
 have hF:=fun w=>jb1 y m 1 w y1 y2 m1 m2 (by omega) (by omega)
 have dm:=Cal.dim_bd y m
 have nl:=jb5 (jbp hy)
 have nf:=jb5 (jfj (y:=y) (m:=m) (d:=1) ⟨y1,y2,m1,m2,by omega,by omega⟩)
 rw[jce]at nl
 have g1:=j0o (c:=62) h5 hb1
 have g2:=j0o (c:=60) h5 ac
 clear hb1 ac
 have hT:=fun w=>jcu s w (by unfold maxLen;omega)
 have kb:=jlj s
 rw[jhy (by omega)]at hT
 clear kb
 clear hy y1 y2 m1 m2
 generalize Cal.dim y m=dd at *
 generalize num y m 1=q at *
 unfold Cl;go_in
 go_wp2_with fail
 refine(hM _).mono ?_
 rintro e w0 ⟨rfl,rfl⟩
 go_wp2_with fail
 refine(hF _).mono ?_
 rintro e w1 ⟨rfl,hb1⟩
 go_upto_region 3 with fail
 go_cut [29]from 22 to 29 (fun x wx=>x=.bool false/\wx=w1)
 case first=>
  by_cases hz:s.size=7
  ·have jm:((s.size:Int)==7)=true:=by simp;omega
   have gZ:((s.extract 0 4).toList==[108,97,115,116])=false:=by unfold aB at ha;rw[dte hz]at ha;simpa using ha
   clear ha
   go_wp2
   go_meet
   exact⟨by simp,rfl⟩
  ·have jm:((s.size:Int)==7)=false:=by simp;omega
   go_wp2
   go_meet
   exact⟨rfl,rfl⟩
 case rest=>
  obtain⟨rfl,rfl⟩:=hcut
  go_wp2_with fail
  refine(hT _).mono ?_
  rintro e w3 ⟨rfl,rfl⟩
  go_wp2
  go_ret
  exact⟨rfl,hb1⟩
theorem j3d(y m:Int)(s:ByteArray)(w:World)(hy:ymB y m=true)(hs:s.size<=1048576)(ha:aB s=false)(h5:s.size<=5)(R:Int)(hR:((twoN s<1\/Cal.dim y m<twoN s)->R= -1000000)/\(1<=twoN s->twoN s<=Cal.dim y m->R=num y m 1+twoN s-1)):
  Cl 90 #[iv y,iv m,.string s] w fun e w'=>e=.returned (iv (R))/\Bw w w':=by
 have ⟨y1,y2,m1,m2⟩:=jfi hy
 have hM:=fun w=>jbd y m w y1 y2
 have hF:=fun w=>jb1 y m 1 w y1 y2 m1 m2 (by omega) (by omega)
 have dm:=Cal.dim_bd y m
 have nl:=jb5 (jbp hy)
 have nf:=jb5 (jfj (y:=y) (m:=m) (d:=1) ⟨y1,y2,m1,m2,by omega,by omega⟩)
 rw[jce]at nl
 have hT:=fun w=>jcu s w (by unfold maxLen;omega)
 have kb:=jlj s
 clear hy y1 y2 m1 m2
 generalize Cal.dim y m=dd at *
 generalize num y m 1=q at *
 generalize twoN s=k at *
 have HR:=hid hR
 clear hR
 unfold Cl;go_in
 go_wp2_with fail
 refine(hM _).mono ?_
 rintro e w0 ⟨rfl,rfl⟩
 go_wp2_with fail
 refine(hF _).mono ?_
 rintro e w1 ⟨rfl,hb1⟩
 go_upto_region 3 with fail
 go_cut [29]from 22 to 29 (fun x wx=>x=.bool false/\wx=w1)
 case first=>
  by_cases hz:s.size=7
  ·have jm:((s.size:Int)==7)=true:=by simp;omega
   have gZ:((s.extract 0 4).toList==[108,97,115,116])=false:=by unfold aB at ha;rw[dte hz]at ha;simpa using ha
   clear ha
   go_wp2
   go_meet
   exact⟨by simp,rfl⟩
  ·have jm:((s.size:Int)==7)=false:=by simp;omega
   go_wp2
   go_meet
   exact⟨rfl,rfl⟩
 case rest=>
  obtain⟨rfl,rfl⟩:=hcut
  go_wp2_with fail
  refine(hT _).mono ?_
  rintro e w3 ⟨rfl,rfl⟩
  by_cases hk:k<1
  ·obtain rfl:R= -1000000:=HR.out.1 (.inl hk)
   clear HR
   go_wp2
   go_ret
   exact⟨rfl,hb1⟩
  by_cases fy:dd<k
  ·obtain rfl:R= -1000000:=HR.out.1 (.inr fy)
   clear HR
   go_wp2
   go_ret
   exact⟨rfl,hb1⟩
  have aM:=HR.out.2 (by omega) (by omega)
  have lh:=hid aM
  clear aM HR
  go_wp2
  go_ret
  exact⟨ret_int (by rw[lh.out]),hb1⟩
theorem jkw(y m:Int)(s:ByteArray)(w:World)(hy:ymB y m=true)(hs:s.size<=1048576):
  Cl 90 #[iv y,iv m,.string s] w fun e w'=>e=.returned (iv (moV y m s))/\Bw w w':=by
 have ⟨y1,y2,m1,m2⟩:=jfi hy
 have dm:=Cal.dim_bd y m
 have nl:=jb5 (jbp hy)
 have nf:=jb5 (jfj (y:=y) (m:=m) (d:=1) ⟨y1,y2,m1,m2,by omega,by omega⟩)
 rw[jce]at nl
 unfold moV
 cases ha:aB s
 ·rw [if_neg (by simp)]
  cases h1:bB 62 s
  ·rw[if_neg (by simp)]
   cases h2:bB 60 s
   ·rw[if_neg (by simp),jnn hy]
    by_cases h5:5<s.size
    ·rw[jhy (by omega),if_neg (by omega)]
     exact jzb y m s w hy hs ha h5 h1 h2
    ·exact j3d y m s w hy hs ha (by omega) _ ⟨fun h=>if_neg (by omega),fun h1 h2=>if_pos (by omega)⟩
   ·rw[if_pos rfl]
    unfold jcg
    rw[jnn hy]
    refine on_le y m s w hy hs ha h2 _ ⟨fun h=>if_pos ?_,fun h1 h2 h3=>?_⟩
    ·rcases h with h|h
     ·exact .inl h
     ·exact .inr (by rw[if_neg (by omega)])
    ·have e:(if 1<=twoN (s.extract 5 s.size)/\twoN (s.extract 5 s.size)<=Cal.dim y m then num y m 1+twoN (s.extract 5 s.size)-1 else -1000000)=num y m 1+twoN (s.extract 5 s.size)-1:=if_pos (by omega)
     rw[e,if_neg (by omega)]
  ·rw[if_pos rfl]
   unfold jff
   rw[jnn hy]
   refine on_ge y m s w hy hs ha h1 _ ⟨fun h=>if_pos ?_,fun h1 h2 h3=>?_⟩
   ·rcases h with h|h
    ·exact .inl h
    ·exact .inr (by rw[if_neg (by omega)])
   ·have e:(if 1<=twoN (s.extract 5 s.size)/\twoN (s.extract 5 s.size)<=Cal.dim y m then num y m 1+twoN (s.extract 5 s.size)-1 else -1000000)=num y m 1+twoN (s.extract 5 s.size)-1:=if_pos (by omega)
    rw[e,if_neg (by omega)]
 ·by_cases hw:wdN (s.extract 4 7)= -1
  ·rw[if_neg (by simp[hw]),j0s ha 62 (by decide),j0s ha 60 (by decide)]
   simp only[Bool.false_eq_true,if_false]
   rw[jnn hy s,jhy (s:=s) (by have:=(jjw ha).1;omega),if_neg (by omega)]
   exact jvw y m s w hy ha hw
  ·rw[if_pos ⟨rfl,hw⟩]
   exact j1x y m s w hy ha hw
theorem jzd{k:Nat}(h:k<7):(wdNames.extract (k*3) ((k+1)*3)).size=3/\∀i,i<3->65<=jae (wdNames.extract (k*3) ((k+1)*3)) i:=by
 rcases(show k=0\/k=1\/k=2\/k=3\/k=4\/k=5\/k=6 by omega)with rfl|rfl|rfl|rfl|rfl|rfl|rfl<;>
 ·refine⟨rfl,fun i hi=>?_⟩
  rcases(show i=0\/i=1\/i=2 by omega)with rfl|rfl|rfl<;>decide
theorem toList_inj{s t:ByteArray}(h:s.toList=t.toList):s=t:=by
 rw[ByteArray.toList_eq,ByteArray.toList_eq]at h
 apply ByteArray.ext
 exact Array.ext' h
theorem j28{s t:ByteArray}{k n:Nat}(h:spG s t k n≠ -1):∃j,k<=j/\j<k+n/\spB s t j=true:=by
 induction n generalizing k with
 |zero=>exact absurd rfl h
 | succ n ih=>
  cases hb:spB s t k
  ·rw[jlw hb (by omega)]at h
   obtain⟨j,j1,j2,j3⟩:=ih h
   exact⟨j,by omega,by omega,j3⟩
  ·exact⟨k,by omega,by omega,hb⟩
theorem jlf{t:ByteArray}(h:wdN t≠ -1):t.size=3/\∀i,i<3->65<=jae t i:=by
 obtain⟨j,_,j2,j3⟩:=j28 h
 unfold spB at j3
 have e:=toList_inj (beq_iff_eq.mp j3)
 have:=jzd (k:=j) (by omega)
 rw[e]at this
 exact this
theorem occ_at{s:ByteArray}{a b:UInt8}{i:Nat}:Lib.occAt s.data.toList [a,b] i=true↔(i+2<=s.size/\jae s i=(a.toNat:Int)/\jae s (i+1)=(b.toNat:Int)):=by
 unfold Lib.occAt
 have hz:s.data.toList.length=s.size:=by rw[Array.length_toList];rfl
 rw[List.isPrefixOf_iff_prefix]
 constructor
 ·rintro⟨r,hr⟩
  have hl:=congrArg List.length hr
  simp[hz]at hl
  have g0:s.data.toList[i]? =some a:=by
   have:=congrArg (fun l=>l[0]?) hr;simpa using this.symm
  have g1:s.data.toList[i+1]? =some b:=by
   have:=congrArg (fun l=>l[1]?) hr;simpa using this.symm
  have es:s=S s.data.toList:=by apply ByteArray.ext;simp
  refine⟨by omega,?_,?_⟩
  ·rw[es];exact jf3 g0
  ·rw[es];exact jf3 g1
 ·rintro⟨h1,h2,h3⟩
  have e0:s.data.toList[i]'(by omega)=a:=by
   apply UInt8.toNat_inj.mp
   have:=jai s i (by omega)
   rw[h2]at this
   have:s[i].toNat=a.toNat:=by omega
   exact this
  have e1:s.data.toList[i+1]'(by omega)=b:=by
   apply UInt8.toNat_inj.mp
   have:=jai s (i+1) (by omega)
   rw[h3]at this
   have:s[i+1].toNat=b.toNat:=by omega
   exact this
  refine⟨s.data.toList.drop (i+2),?_⟩
  rw[List.drop_eq_getElem_cons (show i<s.data.toList.length by omega),List.drop_eq_getElem_cons (show i+1<s.data.toList.length by omega),e0,e1]
  rfl
theorem jxo{s:ByteArray}{a b:UInt8}(ha:a.toNat<65)(_hb:b.toNat<65)(h5:5<=s.size)(h3:jae s 3=(a.toNat:Int))(h4:jae s 4=(b.toNat:Int))(hl:∀i,i<3->65<=jae s i):
  cutA s a b=s.extract 0 3/\cutZ s a b=s.extract 5 s.size/\cutB s a b=true:=by
 have hz:s.data.toList.length=s.size:=by rw[Array.length_toList];rfl
 have hi:Lib.index s.data.toList [a,b]=(3:Nat):=by
  refine Lib.index_first (by omega) (occ_at.mpr ⟨by omega,h3,h4⟩) fun j hj=>?_
  cases ho:Lib.occAt s.data.toList [a,b] j
  ·rfl
  ·have:=(occ_at.mp ho).2.1
   have:=hl j hj
   omega
 have:=Lib.cutB_hit s ⟨#[a,b]⟩ 3 hi
 exact this
theorem jwp{l sub:List UInt8}{i:Nat}(h:Lib.index l sub=(i:Int)):Lib.occAt l sub i=true:=by
 induction l generalizing i with
 | nil=>
  unfold Lib.index at h
  split at h
  ·rename_i he
   obtain rfl:i=0:=by omega
   have:sub=[]:=by simpa using he
   subst this;rfl
  ·omega
 |cons c l ih=>
  unfold Lib.index at h
  split at h
  ·rename_i he
   obtain rfl:i=0:=by omega
   exact he
  ·split at h
   ·omega
   ·have:=Lib.index_ge l sub
    obtain⟨j,rfl⟩:∃j,i=j+1:=⟨i-1,by rename_i h1 h2;simp at h2;omega⟩
    exact ih (by omega)
theorem jmn{s:ByteArray}{a b:UInt8}(hb:cutB s a b=true)(hw:wdN (cutA s a b)≠ -1):
  5<=s.size/\jae s 3=(a.toNat:Int)/\jae s 4=(b.toNat:Int)/\cutA s a b=s.extract 0 3/\cutZ s a b=s.extract 5 s.size:=by
 rcases Lib.indexB_cases s ⟨#[a,b]⟩with hn|⟨i,hi,cr⟩
 ·have:=Lib.cutB_miss s ⟨#[a,b]⟩ hn
  unfold cutB at hb
  rw[this.2.2]at hb;cases hb
 ·have hc:=Lib.cutB_hit s ⟨#[a,b]⟩ i hi
  have eA:cutA s a b=s.extract 0 i:=hc.1
  have eZ:cutZ s a b=s.extract (i+2) s.size:=hc.2.1
  have Ki:i+2<=s.size:=cr
  have h3:=(jlf hw).1
  rw[eA,ByteArray.size_extract]at h3
  have e3:i=3:=by omega
  subst e3
  have ho:=occ_at.mp (jwp (l:=s.data.toList) (sub:=[a,b]) hi)
  exact⟨by omega,ho.2.1,ho.2.2,eA,eZ⟩
theorem jl2{y m:Int}{s:ByteArray}(h:2<s.size):nbV y m s= -1000000:=by
 unfold nbV nbB;rw[if_neg (by simp;omega)]
theorem jq0(s:ByteArray)(a b:Nat):(s.extract a b).toList=(s.data.toList.drop a).take (b-a):=by
 rw[ByteArray.toList_eq,ByteArray.data_extract]
 simp[List.take_drop]
theorem la_t{s:ByteArray}(h:laB s=true):4<=s.size/\laR s=s.extract 4 s.size/\(s.extract 0 4).toList=[108,97,115,116]:=by
 have hz:s.data.toList.length=s.size:=by rw[Array.length_toList];rfl
 have h':=h
 unfold laB Lib.hasPrefix at h
 rw[List.isPrefixOf_iff_prefix]at h
 obtain⟨r,hr⟩:=h
 have hl:=congrArg List.length hr
 simp[hz]at hl
 refine⟨by omega,?_,?_⟩
 ·unfold laR Lib.trimPrefix
  unfold laB at h'
  rw[if_pos h']
  apply toList_inj
  rw[jq0,ByteArray.toList_eq,List.take_of_length_le (by simp[hz])]
  simp
 ·rw[jq0, <- hr];rfl
theorem la_of{s:ByteArray}(h:(s.extract 0 4).toList=[108,97,115,116]):laB s=true:=by
 unfold laB Lib.hasPrefix
 rw[List.isPrefixOf_iff_prefix]
 rw[jq0]at h
 refine⟨s.data.toList.drop 4,?_⟩
 rw[<- h]
 simp
theorem j3z{s:ByteArray}{c:UInt8}(h5:5<s.size)(h3:jae s 3=(c.toNat:Int))(h4:jae s 4=61):bB c s=true:=by
 have e:s.extract 3 5=S [c,61]:=by
  have hz:(s.extract 3 5).size=2:=by rw[ByteArray.size_extract];omega
  apply jxx (by rw[hz,jxy];rfl)
  intro i hi
  rcases(show i=0\/i=1 by omega)with rfl|rfl
  ·rw[jf2 (by omega) (by omega),jf3 (l:=[c,61]) (i:=0) (c:=c) rfl];exact h3
  ·rw[jf2 (by omega) (by omega),jf3 (l:=[c,61]) (i:=1) (c:=61) rfl];exact h4
 unfold bB
 rw[e,dte h5]
 simp[ByteArray.toList_eq]
theorem jli{v d:Int}(h:jcg v d≠ -1000000):v≠ -1/\d≠ -1000000:=by
 unfold jcg at h
 by_cases hc:v= -1\/d= -1000000
 ·rw[if_pos hc]at h;exact absurd rfl h
 ·omega
theorem jqw{v d:Int}(h:jff v d≠ -1000000):v≠ -1/\d≠ -1000000:=by
 unfold jff at h
 by_cases hc:v= -1\/d= -1000000
 ·rw[if_pos hc]at h;exact absurd rfl h
 ·omega
theorem jrk(y m:Int){t:ByteArray}(h:t.size=0):nbV y m t= -1000000:=by
 unfold nbV nbB;rw[jmm h];simp
theorem jt2{y m:Int}{s:ByteArray}(h:jfz y m s≠ -1000000):bB 62 s=true:=by
 unfold jfz at h
 cases hb:cutB s 62 61
 ·rw[hb]at h;exact absurd rfl h
 ·rw[hb,if_pos rfl]at h
  have ⟨h1,h2⟩:=jqw h
  obtain⟨c1,c2,c3,c4,c5⟩:=jmn hb h1
  refine j3z ?_ c2 c3
  rcases Nat.lt_or_ge 5 s.size with hl|hl
  ·exact hl
  ·exact absurd (jrk y m (by rw[c5,ByteArray.size_extract];omega)) h2
theorem joa{y m:Int}{s:ByteArray}(h:jj7 y m s≠ -1000000):bB 60 s=true:=by
 unfold jj7 at h
 cases hb:cutB s 60 61
 ·rw[hb]at h;exact absurd rfl h
 ·rw[hb,if_pos rfl]at h
  have ⟨h1,h2⟩:=jli h
  obtain⟨c1,c2,c3,c4,c5⟩:=jmn hb h1
  refine j3z ?_ c2 c3
  rcases Nat.lt_or_ge 5 s.size with hl|hl
  ·exact hl
  ·exact absurd (jrk y m (by rw[c5,ByteArray.size_extract];omega)) h2
theorem jry{y m:Int}{s:ByteArray}(h:lomV y m s≠ -1000000):aB s=true/\wdN (s.extract 4 7)≠ -1/\lomV y m s=jcg (wdN (s.extract 4 7)) (num y m (Cal.dim y m)):=by
 unfold lomV at h ⊢
 cases hb:laB s
 ·rw[hb]at h;exact absurd rfl h
 ·rw[hb,if_pos rfl]at h
  have ⟨h1,h2⟩:=jli h
  obtain⟨l1,l2,l3⟩:=la_t hb
  have hz:=(jlf h1).1
  rw[l2,ByteArray.size_extract]at hz
  have h7:s.size=7:=by omega
  rw[l2,h7]at h1
  refine⟨by unfold aB;rw[l3,dte h7];rfl,h1,?_⟩
  rw[if_pos rfl,l2,h7]
theorem j2t{s:ByteArray}(h1:bB 62 s=true)(h2:bB 60 s=true):False:=by
 have a:=(jc4 h1).2.1
 have b:=(jc4 h2).2.1
 rw[a]at b
 exact absurd b (by decide)
theorem jsa{s:ByteArray}{c:UInt8}(hc:c.toNat<65)(h:bB c s=true):(wdN (s.extract 0 3)≠ -1->cutB s c 61=true/\cutA s c 61=s.extract 0 3/\cutZ s c 61=s.extract 5 s.size)/\(wdN (s.extract 0 3)= -1->cutB s c 61=true->wdN (cutA s c 61)= -1):=by
 obtain⟨h5,h3,h4⟩:=jc4 h
 constructor
 ·intro hw
  have hl:=(jlf hw).2
  have:=jxo (s:=s) (a:=c) (b:=61) hc (by decide) (by omega) h3 h4 (fun i hi=>by have:=hl i hi;rw[jf2 (by omega) (by omega)]at this;simpa using this)
  exact⟨this.2.2,this.1,this.2.1⟩
 ·intro hw hb
  refine Classical.byContradiction fun hn=>?_
  obtain⟨_,_,_,c4,_⟩:=jmn hb hn
  rw[c4]at hn
  exact hn hw
theorem jig{y m:Int}(hy:ymB y m=true)(s:ByteArray):onV y m s=moV y m s:=by
 have nl:=jb5 (jbp hy)
 unfold onV moV
 by_cases hA:aB s=true/\wdN (s.extract 4 7)≠ -1
 ·rw[if_pos hA]
  have h7:=(jjw hA.1).1
  have hl:lomV y m s=jcg (wdN (s.extract 4 7)) (num y m (Cal.dim y m)):=by
   have l3:(s.extract 0 4).toList=[108,97,115,116]:=by have:=hA.1;unfold aB at this;simp only[bat,beq_iff_eq]at this;exact this.2
   have hb:=la_of l3
   unfold lomV
   rw[if_pos hb,(la_t hb).2.1,h7]
  have az:lomV y m s≠ -1000000:=by
   rw[hl];unfold jcg
   have:=jc6 (s.extract 4 7)
   rw[if_neg (by omega)]
   omega
  unfold orV
  rw[jl2 (by omega),if_pos rfl,if_neg az,hl]
 ·rw[if_neg hA]
  have jg:lomV y m s= -1000000:=Classical.byContradiction fun hn=>hA ⟨(jry hn).1,(jry hn).2.1⟩
  rw[jg]
  cases h1:bB 62 s
  ·have K3:jfz y m s= -1000000:=Classical.byContradiction fun hn=>by rw[jt2 hn]at h1;cases h1
   rw[K3,if_neg (by simp)]
   cases h2:bB 60 s
   ·have hla:jj7 y m s= -1000000:=Classical.byContradiction fun hn=>by rw[joa hn]at h2;cases h2
    rw[hla,if_neg (by simp)]
    unfold orV
    by_cases hn:nbV y m s= -1000000
    ·rw[hn];rfl
    ·rw[if_neg hn]
   ·rw[if_pos rfl,jl2 (by have:=(jc4 h2).1;omega)]
    have ⟨f1,f2⟩:=jsa (s:=s) (c:=60) (by decide) h2
    have:jj7 y m s=jcg (wdN (s.extract 0 3)) (nbV y m (s.extract 5 s.size)):=by
     unfold jj7
     by_cases hw:wdN (s.extract 0 3)= -1
     ·have e:jcg (wdN (s.extract 0 3)) (nbV y m (s.extract 5 s.size))= -1000000:=by unfold jcg;rw[if_pos (.inl hw)]
      rw[e]
      cases hb:cutB s 60 61
      ·rfl
      ·rw[if_pos rfl,f2 hw hb];unfold jcg;rw[if_pos (.inl rfl)]
     ·have ⟨g1,g2,g3⟩:=f1 hw
      rw[if_pos g1,g2,g3]
    rw[this];rfl
  ·rw[if_pos rfl,jl2 (by have:=(jc4 h1).1;omega)]
   have hla:jj7 y m s= -1000000:=Classical.byContradiction fun hn=>j2t h1 (joa hn)
   have ⟨f1,f2⟩:=jsa (s:=s) (c:=62) (by decide) h1
   have:jfz y m s=jff (wdN (s.extract 0 3)) (nbV y m (s.extract 5 s.size)):=by
    unfold jfz
    by_cases hw:wdN (s.extract 0 3)= -1
    ·have e:jff (wdN (s.extract 0 3)) (nbV y m (s.extract 5 s.size))= -1000000:=by unfold jff;rw[if_pos (.inl hw)]
     rw[e]
     cases hb:cutB s 62 61
     ·rfl
     ·rw[if_pos rfl,f2 hw hb];unfold jff;rw[if_pos (.inl rfl)]
    ·have ⟨g1,g2,g3⟩:=f1 hw
     rw[if_pos g1,g2,g3]
   rw[this,hla]
   unfold orV
   rw[if_pos rfl,if_pos rfl]
   by_cases hn:jff (wdN (s.extract 0 3)) (nbV y m (s.extract 5 s.size))= -1000000
   ·rw[if_pos hn,hn]
   ·rw[if_neg hn]
theorem jsr{y m:Int}{s:ByteArray}(h:jbj y m s≠ -1000000):ymB y m=true/\
  ((s.size<3/\num y m 1<=jbj y m s/\jbj y m s<=num y m 1+Cal.dim y m-1)\/
  (aB s=true/\wdN (s.extract 4 7)=(jbj y m s+719163)%7/\jbj y m s<=num y m 1+Cal.dim y m-1/\num y m 1+Cal.dim y m-1-7<jbj y m s)\/
  (bB 62 s=true/\wdN (s.extract 0 3)=(jbj y m s+719163)%7/\∃k,jbj y m (s.extract 5 s.size)=k/\k<=jbj y m s/\jbj y m s<k+7/\ -719162<=k/\k<=2932896)\/
  (bB 60 s=true/\wdN (s.extract 0 3)=(jbj y m s+719163)%7/\∃k,jbj y m (s.extract 5 s.size)=k/\jbj y m s<=k/\k-7<jbj y m s/\ -719162<=k/\k<=2932896)):=by
 cases hy:ymB y m
 ·exact absurd (by unfold jbj;rw[hy];rfl) h
 refine⟨rfl,?_⟩
 have ht:∀s,jbj y m s=moV y m s:=fun s=>by unfold jbj;rw[hy,if_pos rfl,jig hy]
 have hk:∀t,nbV y m t≠ -1000000->jbj y m t=nbV y m t:=fun t hn=>by
  unfold jbj onV orV;rw[hy,if_pos rfl,if_neg hn]
 rw[ht]at h ⊢
 have nl:=jb5 (jbp hy)
 unfold moV at h ⊢
 by_cases hA:aB s=true/\wdN (s.extract 4 7)≠ -1
 ·rw[if_pos hA]at h ⊢
  right;left
  have hb:=jc6 (s.extract 4 7)
  unfold jcg
  rw[if_neg (by omega)]
  rw[jce]at nl ⊢
  exact⟨hA.1,by omega,by omega,by omega⟩
 ·rw [if_neg hA]at h ⊢
  cases h1:bB 62 s
  ·rw[h1,if_neg (by simp)]at h
   rw[if_neg (by simp)]
   cases h2:bB 60 s
   ·rw[h2,if_neg (by simp)]at h
    rw[if_neg (by simp)]
    left
    have e:=jnn hy s
    by_cases hc:1<=twoN s/\twoN s<=Cal.dim y m
    ·rw[if_pos hc]at e
     rw[e]
     refine⟨?_,by omega,by omega⟩
     rcases Nat.lt_or_ge s.size 3 with hl|hl
     ·exact hl
     ·have:=jhy (s:=s) (by omega);omega
    ·rw[if_neg hc]at e
     exact absurd e h
   ·rw[h2,if_pos rfl]at h
    rw[if_pos rfl]
    right;right;right
    have ⟨u1,u2⟩:=jli h
    have hb:=jc6 (s.extract 0 3)
    have nb:=jrl y m (s.extract 5 s.size)
    refine⟨rfl,?_,_,hk _ u2,?_,?_,by omega,by omega⟩
    all_goals (unfold jcg;rw[if_neg (by omega)];omega)
  ·rw[h1,if_pos rfl]at h
   rw[if_pos rfl]
   right;right;left
   have ⟨u1,u2⟩:=jqw h
   have hb:=jc6 (s.extract 0 3)
   have nb:=jrl y m (s.extract 5 s.size)
   refine⟨rfl,?_,_,hk _ u2,?_,?_,by omega,by omega⟩
   all_goals (unfold jff;rw[if_neg (by omega)];omega)
theorem j1l{y m:Int}{s:ByteArray}:jbj y m s= -1000000\/(-800000<=jbj y m s/\jbj y m s<=3000000):=by
 by_cases h:jbj y m s= -1000000
 ·exact .inl h
 ·right
  obtain⟨hy,hf⟩:=jsr h
  have ⟨y1,y2,m1,m2⟩:=jfi hy
  have dm:=Cal.dim_bd y m
  have nl:=jb5 (jbp hy)
  rw[jce]at nl
  rcases hf with⟨_,_,_⟩|⟨_,_,_,_⟩|⟨_,_,k,_,_,_,_,_⟩|⟨_,_,k,_,_,_,_,_⟩<;>omega
