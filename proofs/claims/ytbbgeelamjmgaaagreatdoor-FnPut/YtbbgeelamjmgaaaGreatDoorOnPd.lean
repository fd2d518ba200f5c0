import Derived.Test.YtbbgeelamjmgaaaGreatDoorBasePd
import Derived.Test.YtbbgeelamjmgaaaGreatDoorShelfK
import Derived.Lib.QuietBelow
import Derived.Deep.RegionHeld3
import Derived.Deep.CutRange
import Derived.Laws.EntriesVeiled
set_option maxHeartbeats 0
set_option linter.unusedSimpArgs false
open Go.RowKit Go.Sort
namespace Go.Proofs.YtbbgeelamjmgaaaGreatDoor
variable{s t:ByteArray}{i k n:Nat}{d m y:Int}{args:Array Value}{W w:World}{v:Value}{l:List UInt8}
def vaW:ByteArray:=⟨#[83,117,110,77,111,110,84,117,101,87,101,100,84,104,117,70,114,105,83,97,116]⟩
def spB(s t:ByteArray)(k:Nat):Bool:=(s.extract (k*3) ((k+1)*3)).toList==t.toList
def spG(s t:ByteArray):Nat->Nat->Int
 |_,0=> -1
 |k,n+1=>if spB s t k=true then k else spG s t (k+1) n
theorem jvf(h:spB s t k=true)(hn:0<n):spG s t k n=k:=by
 obtain⟨n,rfl⟩:∃m,n=m+1:=⟨n-1,Q⟩;simp only[spG];rw[if_pos h]
theorem jlw(h:spB s t k=false)(hn:0<n):spG s t k n=spG s t (k+1) (n-1):=by
 obtain⟨n,rfl⟩:∃m,n=m+1:=⟨n-1,Q⟩;simp only[spG];rw[h];rfl
theorem j27(s t:ByteArray)(k n:Nat):spG s t k n= -1\/(k<=spG s t k n/\spG s t k n<k+n):=by
 induction n generalizing k with
 |zero=>exact .inl rfl
 | succ n ih=>
  simp only[spG];split
  .right;omega
  .rcases ih (k+1)with h|h
   .exact .inl h
   .right;omega
def spN(s t:ByteArray)(m:Nat):Int:=if spG s t 0 m<0 then 0 else spG s t 0 m
def spO(s t:ByteArray)(m:Nat):Bool:=decide (0<=spG s t 0 m)
theorem jve{m:Nat}{k:Int}(h:spG s t 0 m=k)(hk:0<=k):spN s t m=k/\spO s t m=true:=by
 unfold spN spO;rw[h,if_neg Q];exact⟨rfl,rT hk⟩
theorem jps{m:Nat}(h:spG s t 0 m= -1):spN s t m=0/\spO s t m=false:=by
 unfold spN spO;rw[h];exact⟨rfl,rfl⟩
theorem jkb(s:ByteArray)(k:Nat)(w:World)(h:(k+1)*3<=s.size)(hs:s.size<=1000):
  C 291 #[I s,J k] w λe w'=>e=V (I (s.extract (k*3) ((k+1)*3)))/\w'=w:=by
 unfold C;go_in;go_wp2;go_ret;exact⟨rfl,rfl⟩
theorem ji4(s t:ByteArray)(m:Nat)(w:World)(hm:s.size=3*m)(hs:m<=300):
  C 275 #[I s,I t] w λe w'=>e=V (.tuple #[J (spN s t m),.bool (spO s t m)])/\w'=w:=by
 have hd:(s.size:Int) / 3=m:=Q;unfold C;go_in;go_wp2;go_loop [10] (λi=>∃k:Nat,k<=m/\i=J k/\Hid (spG s t 0 m=spG s t k (m-k))) (λi=>m-(intOf i).toNat)
 .exact⟨0,Q,rfl,rfl⟩
 ·
  obtain⟨k,hk,rfl,hg⟩:=hrel;by_cases hlt:k<m
  .have hN:=λw=>jkb s k w Q Q
   cases hb:spB s t k
   .have HG:Hid (spG s t 0 m=spG s t (k+1) (m-(k+1))):=by
     have:=jlw hb (show 0<m-k by omega);simp only[Hid];rw[hg.out,this];congr 1
    unfold spB at hb;generalize s.extract (k*3) ((k+1)*3)=x at *;go_wp2_with (go_at_call 291;refine(hN _).mono ?_;rintro e w' ⟨rfl,rfl⟩);go_round
    .exact⟨k+1,Q,RP,HG.out⟩
    .simp[intOf];omega
   .have HG:Hid (spG s t 0 m=k):=by
     have:=jvf hb (show 0<m-k by omega);simp only[Hid];rw[hg.out,this]
    unfold spB at hb;generalize s.extract (k*3) ((k+1)*3)=x at *;go_wp2_with (go_at_call 291;refine(hN _).mono ?_;rintro e w' ⟨rfl,rfl⟩);go_ret2;exact⟨vdE (jve HG.out Q).1.symm (jve HG.out Q).2.symm,rfl⟩
  .have e:k=m:=Q
   subst e;have HG:Hid (spG s t 0 k= -1):=by have:=hg.out;simp only[Hid];rw[this];simp[spG]
   go_wp2;go_ret2;exact⟨vdE (jps HG.out).1.symm (jps HG.out).2.symm,rfl⟩
def wu(t:ByteArray):Int:=spG vaW t 0 7
theorem jc6(t:ByteArray):wu t= -1\/(0<=wu t/\wu t<7):=by
 have:=j27 vaW t 0 7;unfold wu;omega
theorem jcb(t:ByteArray)(w:World):
  C 252 #[I t] w λe w'=>e=V (J (wu t))/\w'=w:=by
 have hP:=λw=>ji4 vaW t 7 w RN Q
 rcases jc6 t with bd|bd
 .have e:=jps (s:=vaW) (t:=t) (m:=7) bd
  rw[e.1,e.2]at hP;rw[bd];unfold vaW at hP;clear bd e;unfold C;go_in;go_wp2_with (go_at_call 275;refine(hP _).mono ?_;rintro e w' ⟨rfl,rfl⟩);go_ret;exact⟨rfl,rfl⟩
 .have e:=jve (s:=vaW) (t:=t) (m:=7) (k:=wu t) rfl bd.1
  rw[e.1,e.2]at hP;unfold vaW at hP;generalize wu t=r at *;clear bd e;unfold C;go_in;go_wp2_with (go_at_call 275;refine(hP _).mono ?_;rintro e w' ⟨rfl,rfl⟩);go_ret;exact⟨rfl,rfl⟩
def vdi:List ByteArray:=[⟨#[83,117,110]⟩,⟨#[77,111,110]⟩,⟨#[84,117,101]⟩,⟨#[87,101,100]⟩,⟨#[84,104,117]⟩,⟨#[70,114,105]⟩,⟨#[83,97,116]⟩]
theorem juh(h:k<7):(vdi.getD k ⟨#[]⟩).toList=(vaW.extract (k*3) ((k+1)*3)).toList:=by
 rcases(show k=0\/k=1\/k=2\/k=3\/k=4\/k=5\/k=6 by omega)with rfl|rfl|rfl|rfl|rfl|rfl|rfl<;>(rw[ByteArray.toList_eq,ByteArray.toList_eq];rfl)
theorem jy4(w:World)(T:TypeId)(l:List ByteArray)(i:Nat)(hi:i<l.length):(w.alloc (G (l.map Value.string).toArray T)).cell? (O w.heap.size i)=some (I (l.getD i ⟨#[]⟩)):=by
 simp[List.getD,hi]
theorem jcp(t:ByteArray)(w:World):
  C 81 #[I t] w λe w'=>e=V (J (wu t))/\Bw w w':=by
 have hc:=λi hi=>jy4 w 9 vdi i hi
 have hl:vdi.length=7:=rfl;unfold wu;unfold C;go_in;go_wp2;go_loop [4] (λi=>∃k:Nat,k<=7/\i=J k/\Hid (spG vaW t 0 7=spG vaW t k (7-k))) (λi=>7-(intOf i).toNat)
 .exact⟨0,Q,rfl,rfl⟩
 ·
  obtain⟨k,hk,rfl,hg⟩:=hrel;by_cases hlt:k<7
  .obtain⟨x,hx,ja⟩:∃x:ByteArray,(w.alloc (G (vdi.map Value.string).toArray 9)).cell? (O w.heap.size k)=some (I x)/\(x.toList==t.toList)=spB vaW t k:=
    ⟨_,hc k Q,by unfold spB;rw[juh hlt]⟩
   unfold vdi at hx;simp only[List.map_cons,List.map_nil]at hx;clear hc;cases hb:spB vaW t k
   .have HG:Hid (spG vaW t 0 7=spG vaW t (k+1) (7-(k+1))):=by
     have:=jlw hb (show 0<7-k by omega);simp only[Hid];rw[hg.out,this];congr 1
    rw[hb]at ja;clear hb hg;go_wp2;go_round
    .exact⟨k+1,Q,RP,HG.out⟩
    .simp[intOf];omega
   .have HG:Hid (spG vaW t 0 7=k):=by
     have:=jvf hb (show 0<7-k by omega);simp only[Hid];rw[hg.out,this]
    rw[hb]at ja;clear hb hg;go_wp2;go_ret;exact⟨Fh HG.out.symm,ZA _ _⟩
  .have e:k=7:=Q
   subst e;have HG:Hid (spG vaW t 0 7= -1):=by have:=hg.out;simp only[Hid];rw[this];rfl
   go_wp2;go_ret;exact⟨Fh HG.out.symm,ZA _ _⟩
def jff(v d:Int):Int:=if v= -1\/d= -1000000 then -1000000 else d+(v-(d+719163)%7+7)%7
def jcg(v d:Int):Int:=if v= -1\/d= -1000000 then -1000000 else d-((d+719163)%7-v+7)%7
theorem jhb(v d:Int)(w:World)(hv:v= -1\/(0<=v/\v<7))(hd:d= -1000000\/(-719162<=d/\d<=2932896)):
  C 255 #[J v,J d] w λe w'=>e=V (J (jff v d))/\w'=w:=by
 unfold jff;by_cases h1:v= -1
 .subst h1
  rw[if_pos (.inl rfl)];unfold C;go_in;go_wp2;go_ret;exact⟨rfl,rfl⟩
 by_cases h2:d= -1000000
 .subst h2
  have g1:(v== -1)=false:=by simpa using h1
  rw[if_pos (.inr rfl)];unfold C;go_in;go_wp2;go_ret;exact⟨rfl,rfl⟩
 .rw[if_neg Q]
  have g1:(v== -1)=false:=by simpa using h1
  have g2:(d== -1000000)=false:=by simpa using h2
  have hW:=λw=>jg3 d w
  rw[jug Q Q]at hW;have hr:0<=(d+719163)%7/\(d+719163)%7<7:=Q;have oJ:0<=v/\v<7:=Q;have BV: -719162<=d/\d<=2932896:=Q;clear hv hd h1 h2;generalize (d+719163)%7=r at *;unfold C;go_in;go_wp2_with (go_at_call 274;refine(hW _).mono ?_;rintro e w' ⟨rfl,rfl⟩);go_ret;exact⟨Fh Q,rfl⟩
theorem jdt(v d:Int)(w:World)(hv:v= -1\/(0<=v/\v<7))(hd:d= -1000000\/(-719162<=d/\d<=2932896)):
  C 251 #[J v,J d] w λe w'=>e=V (J (jcg v d))/\w'=w:=by
 unfold jcg;by_cases h1:v= -1
 .subst h1
  rw[if_pos (.inl rfl)];unfold C;go_in;go_wp2;go_ret;exact⟨rfl,rfl⟩
 by_cases h2:d= -1000000
 .subst h2
  have g1:(v== -1)=false:=by simpa using h1
  rw[if_pos (.inr rfl)];unfold C;go_in;go_wp2;go_ret;exact⟨rfl,rfl⟩
 .rw[if_neg Q]
  have g1:(v== -1)=false:=by simpa using h1
  have g2:(d== -1000000)=false:=by simpa using h2
  have hW:=λw=>jg3 d w
  rw[jug Q Q]at hW;have hr:0<=(d+719163)%7/\(d+719163)%7<7:=Q;have oJ:0<=v/\v<7:=Q;have BV: -719162<=d/\d<=2932896:=Q;clear hv hd h1 h2;generalize (d+719163)%7=r at *;unfold C;go_in;go_wp2_with (go_at_call 274;refine(hW _).mono ?_;rintro e w' ⟨rfl,rfl⟩);go_ret;exact⟨Fh Q,rfl⟩
def nbB(y m:Int)(t:ByteArray):Bool:=decide (t.size<=2)&&(vaA t&&vbu y m (drN t))
def Na(y m:Int)(t:ByteArray):Int:=if nbB y m t=true then num y m (drN t)else -1000000
theorem jrl(y m:Int)(t:ByteArray):Na y m t= -1000000\/(-719162<=Na y m t/\Na y m t<=2932896):=by
 unfold Na;split
 .rename_i h
  unfold nbB at h;simp only[vB]at h;exact .inr (jb5 h.2.2)
 .exact .inl rfl
theorem jdp(y m:Int)(s t:ByteArray)(w:World)(hT:Bz w)(hz:t.size<=maxLen):
  C 249 #[.agg #[J y,J m,I s],I t] w λe w'=>e=V (J (Na y m t))/\Bw w w':=by
 unfold maxLen at hz;unfold Na nbB;by_cases h2:2<t.size
 .rw[if_neg RO]
  unfold C;go_in;go_wp2;go_ret;exact⟨rfl,ZA _ _⟩
 have hD:=λw=>jje t w Q
 have hR:=λw (h:Bz w)=>je6 y m (drN t) w h
 rw[rT (show t.size<=2 by omega)];cases hd:vaA t
 .rw[hd]at hD
  simp only[Bool.false_and,Bool.and_false,Bool.false_eq_true,if_false];clear hd;generalize drN t=k at *;unfold C;go_in;go_wp2_with (go_at_call 271;refine(hD _).mono ?_;rintro e w' ⟨rfl,rfl⟩);go_ret;exact⟨rfl,(ZA _ _).alloc M _⟩
 .rw[hd]at hD
  simp only[Bool.true_and];clear hd;cases hv:vbu y m (drN t)
  .rw[hv]at hR
   clear hv;generalize drN t=k at *;simp only[Bool.false_eq_true,if_false];unfold C;go_in;go_wp2_with fail;refine(hD _).mono ?_;rintro e w1 ⟨rfl,rfl⟩;go_wp2_with fail;refine(hR _ ((hT.alloc _).alloc _)).mono ?_;rintro e w2 ⟨rfl,hb⟩;go_wp2;go_ret;exact⟨rfl,((ZA _ _).alloc M _).trans (hb.mono RO)⟩
  .have hX:=λw (h:Bz w)=>je5 y m (drN t) w h hv
   rw[hv]at hR;clear hv;generalize num y m (drN t)=q at *;generalize drN t=k at *;simp only[if_true];unfold C;go_in;go_wp2_with fail;refine(hD _).mono ?_;rintro e w1 ⟨rfl,rfl⟩;go_wp2_with fail;refine(hR _ ((hT.alloc _).alloc _)).mono ?_;rintro e w2 ⟨rfl,hb⟩;have⟨hc,hf⟩:=Z4 hb;have hB:=((ZA w _).alloc M _).trans (hb.mono RO);have eO:=hT.of_below hB;go_wp2_with fail;refine(hX _ eO).mono ?_;rintro e w3 ⟨rfl,ar⟩;go_wp2;go_ret;exact⟨rfl,(Zp hB ar)⟩
def Ie(t:ByteArray):Int:=if t.size<=2 then ldN t else -1
theorem jcu(s:ByteArray)(w:World)(hz:s.size<=maxLen):
  C 83 #[I s] w λe w'=>e=V (J (Ie s))/\w'=w:=by
 unfold maxLen at hz;unfold Ie;by_cases h2:2<s.size
 .rw[if_neg Q]
  unfold C;go_in;go_wp2;go_ret;exact⟨rfl,rfl⟩
 rw[if_pos Q];by_cases h0:s.size<1
 .have h:=jmm (s:=s) Q
  rw[jzn h];unfold C;go_in;go_wp2;go_ret;exact⟨rfl,rfl⟩
 .unfold C;go_in
  go_wp2;go_loop [3,4] (λx i=>∃k:Nat,k<=s.size/\i=J k/\x=J (jda s k)/\Hid (∀j,j<k->vaa (Z0 s j)=true)) (λ_ i=>s.size-(intOf i).toNat)
  .exact⟨0,Q,rfl,rfl,vcd⟩
  ·
   obtain⟨k,hk,rfl,rfl,ak⟩:=hrel;by_cases hlt:k<s.size
   .have hB:=λw=>jdi (Z0 s k) w
    have nb:=jih (s:=s) (k:=k) Q ak.out;have e:=jai s k hlt;cases hb:vaa (Z0 s k)
    .have HB:Hid (vaA s=false):=jxl hlt hb
     rw[hb, <- e]at hB;clear hb e;go_wp2_with (go_at_call 98;refine(hB _).mono ?_;rintro e w' ⟨rfl,rfl⟩);go_ret;exact⟨Fh (jzn HB.out).symm,rfl⟩
    .have HB:=hid hb
     have ⟨b1,b2⟩:=jxm hb;have HN:Hid (jda s (k+1)=10*jda s k+((s[k].toNat:Int)-48)):=by simp only[Hid,jda];rw[e]
     rw[hb, <- e]at hB;rw[<- e]at b1 b2;clear hb e;go_wp2_with (go_at_call 98;refine(hB _).mono ?_;rintro e w' ⟨rfl,rfl⟩);go_round
     .exact⟨k+1,Q,RP,by rw[HN.out],jbi ak.out HB.out⟩
     .simp[intOf];omega
   .have e:k=s.size:=Q
    subst e;have HB:Hid (vaA s=true):=jsg Q ak.out;go_wp2;go_ret;exact⟨Fh (j2a HB.out).symm,rfl⟩
theorem rgS{f:FuncId}(h:∀w,C f args w λe w'=>e=V v/\w'=w):
  ∀dd os,C f args (grow (redrawn W dd) os) λe cW=>e=V v/\∃p:Regrown,cW=grow (redrawn W p.d) p.os:=
 λdd os=>Calls.regrown_of ((h _).mono λe w' ⟨he,hw⟩=>⟨he,by subst hw;exact ZU _ _⟩)
theorem rgA{f:FuncId}(hT:Bz W)(h:∀w,Bz w->C f args w λe w'=>e=V v/\Bw w w'):
  ∀dd os,C f args (grow (redrawn W dd) os) λe cW=>e=V v/\∃p:Regrown,cW=grow (redrawn W p.d) p.os:=
 λdd os=>Calls.regrown_of (h _ (hT.of_below (below_regrown W dd os)))
def Mx(w:World):Prop:=∃m:Int,w.cell? (O (1) 0)=some (J m)
theorem Mx.of_below{w':World}(h:Mx w)(hb:Bw w w'):Mx w':=by
 have⟨m,hm⟩:=h;exact⟨m,by rw[(Z4 hb).1 _ _ (ZI hm)];exact hm⟩
theorem Mx.alloc(h:Mx w)(o:Obj):Mx (w.alloc o):=h.of_below (ZA _ o)
theorem jjf(y m:Int)(s:ByteArray)(w:World)(hT:Bz w)(hz:s.size<=maxLen):
  C 220 #[.agg #[J y,J m,I s]] w λe w'=>e=V (J (Na y m s))/\Bw w w':=by
 have hN:=λw (h:Bz w)=>jdp y m s s w h hz
 generalize Na y m s=k at *;unfold C;go_in;go_wp2_with fail;refine(hN _ (hT.alloc _)).mono ?_;rintro e w1 ⟨rfl,hb⟩;go_wp2;go_ret;exact⟨rfl,(ZA _ _).trans (hb.mono M)⟩
def vaX(s:ByteArray)(a b:UInt8):ByteArray:=⟨(Lib.cut s.data.toList [a,b]).1.toArray⟩
def vaY(s:ByteArray)(a b:UInt8):ByteArray:=⟨(Lib.cut s.data.toList [a,b]).2.1.toArray⟩
def vbj(s:ByteArray)(a b:UInt8):Bool:=(Lib.cut s.data.toList [a,b]).2.2
def jfz(y m:Int)(s:ByteArray):Int:=if vbj s 62 61=true then jff (wu (vaX s 62 61)) (Na y m (vaY s 62 61))else -1000000
def jj7(y m:Int)(s:ByteArray):Int:=if vbj s 60 61=true then jcg (wu (vaX s 60 61)) (Na y m (vaY s 60 61))else -1000000
theorem jxp(s:ByteArray)(a b:UInt8):(vaY s a b).size<=s.size:=by
 unfold vaY Lib.cut;simp only[ByteArray.size];split<;>simp
theorem jr8(s:ByteArray)(a b:UInt8)(w:World)(hM:Mx w)(hs:s.size<4294967281):
  C 254 #[I s,I ⟨#[a,b]⟩] w λe w'=>e=V (.tuple #[I (vaX s a b),I (vaY s a b),.bool (vbj s a b)])/\∃n,w'=w.drewN n:=by
 have⟨m,hm⟩:=hM;exact Tryz.strings_Cut s ⟨#[a,b]⟩ m w hs hm
theorem jkh(y m:Int)(s:ByteArray)(w:World)(hT:Bz w)(hM:Mx w)(hz:s.size<=1048576):
  C 222 #[.agg #[J y,J m,I s]] w λe w'=>e=V (J (jfz y m s))/\Bw w w':=by
 have hC:=λw (h:Mx w)=>jr8 s 62 61 w h Q
 have hN:=λw (h:Bz w)=>jdp y m s (vaY s 62 61) w h (by have:=jxp s 62 61;unfold maxLen;omega)
 have hD:=λw=>jcb (vaX s 62 61) w
 have hF:=λw=>jhb (wu (vaX s 62 61)) (Na y m (vaY s 62 61)) w (jc6 _) (jrl _ _ _)
 unfold jfz;generalize wu (vaX s 62 61)=v at *;generalize Na y m (vaY s 62 61)=k at *;generalize vaX s 62 61=sa at *;generalize vaY s 62 61=sz at *;cases hb:vbj s 62 61
 .rw[hb]at hC
  clear hb;simp only[Bool.false_eq_true,if_false];unfold C;go_in;go_wp2_with fail;refine(hC _ (hM.alloc _)).mono ?_;rintro e w1 ⟨rfl,n,rfl⟩;go_wp2;go_ret;exact⟨rfl,jle _ _ _⟩
 .rw[hb]at hC
  clear hb;simp only[if_true];generalize jff v k=r at *;unfold C;go_in;go_wp2_with fail;refine(hC _ (hM.alloc _)).mono ?_;rintro e w1 ⟨rfl,n,rfl⟩;go_wp2_with fail;have ki:=jle w (G #[J y,J m,I s] 234) n;have uJ:=hT.of_below ki;have k0:=cell_regrown (w:=(w.alloc (G #[J y,J m,I s] 234)).drewN n) (a:=(O w.heap.size 0)) (v:=J y) M;have k1:=cell_regrown (w:=(w.alloc (G #[J y,J m,I s] 234)).drewN n) (a:=(O w.heap.size 1)) (v:=J m) M;have k2:=cell_regrown (w:=(w.alloc (G #[J y,J m,I s] 234)).drewN n) (a:=(O w.heap.size 2)) (v:=I s) M;generalize (w.alloc (G #[J y,J m,I s] 234)).drewN n=W at *;have cD:=rgS (W:=W) hD;have cF:=rgS (W:=W) hF;have cN:=rgA uJ hN;refine wp_region_quiet_below RG RG ?_
  repeat (quiet_step (first|(go_at_call 252;exact cD _ _)|(go_at_call 249;exact cN _ _)|(go_at_call 255;exact cF _ _)))
  refine wpQuiet_nil ?_;intro _ bM;have⟨⟨dq,aQ⟩,aO⟩:=bM;subst aO;go_wp2;go_ret;exact⟨rfl,ki.trans ((below_regrown _ dq aQ).mono ki.size)⟩
theorem jub(w:World)(a b:Obj):Bw w ((w.alloc a).alloc b).drew:=
 below_drewN ((ZA _ a).alloc M b) 1
theorem jmc(y m:Int)(s:ByteArray)(w:World)(hT:Bz w)(hM:Mx w)(hz:s.size<=1048576):
  C 223 #[.agg #[J y,J m,I s]] w λe w'=>e=V (J (jj7 y m s))/\Bw w w':=by
 have hC:=λw (h:Mx w)=>jr8 s 60 61 w h Q
 have hN:=λw (h:Bz w)=>jdp y m s (vaY s 60 61) w h (by have:=jxp s 60 61;unfold maxLen;omega)
 have hD:=λw=>jcb (vaX s 60 61) w
 have hF:=λw=>jdt (wu (vaX s 60 61)) (Na y m (vaY s 60 61)) w (jc6 _) (jrl _ _ _)
 unfold jj7;generalize wu (vaX s 60 61)=v at *;generalize Na y m (vaY s 60 61)=k at *;generalize vaX s 60 61=sa at *;generalize vaY s 60 61=sz at *;cases hb:vbj s 60 61
 .rw[hb]at hC
  clear hb;simp only[Bool.false_eq_true,if_false];unfold C;go_in;go_wp2_with fail;refine(hC _ (hM.alloc _)).mono ?_;rintro e w1 ⟨rfl,n,rfl⟩;go_wp2;go_ret;exact⟨rfl,jle _ _ _⟩
 .rw[hb]at hC
  clear hb;simp only[if_true];generalize jcg v k=r at *;unfold C;go_in;go_wp2_with fail;refine(hC _ (hM.alloc _)).mono ?_;rintro e w1 ⟨rfl,n,rfl⟩;go_wp2_with fail;have ki:=jle w (G #[J y,J m,I s] 234) n;have uJ:=hT.of_below ki;have k0:=cell_regrown (w:=(w.alloc (G #[J y,J m,I s] 234)).drewN n) (a:=(O w.heap.size 0)) (v:=J y) M;have k1:=cell_regrown (w:=(w.alloc (G #[J y,J m,I s] 234)).drewN n) (a:=(O w.heap.size 1)) (v:=J m) M;have k2:=cell_regrown (w:=(w.alloc (G #[J y,J m,I s] 234)).drewN n) (a:=(O w.heap.size 2)) (v:=I s) M;generalize (w.alloc (G #[J y,J m,I s] 234)).drewN n=W at *;have cD:=rgS (W:=W) hD;have cF:=rgS (W:=W) hF;have cN:=rgA uJ hN;refine wp_region_quiet_below RG RG ?_
  repeat (quiet_step (first|(go_at_call 252;exact cD _ _)|(go_at_call 249;exact cN _ _)|(go_at_call 251;exact cF _ _)))
  refine wpQuiet_nil ?_;intro _ bM;have⟨⟨dq,aQ⟩,aO⟩:=bM;subst aO;go_wp2;go_ret;exact⟨rfl,ki.trans ((below_regrown _ dq aQ).mono ki.size)⟩
def laR(s:ByteArray):ByteArray:=⟨(Lib.trimPrefix s.data.toList [108,97,115,116]).toArray⟩
def laB(s:ByteArray):Bool:=Lib.hasPrefix s.data.toList [108,97,115,116]
def vbB(y m:Int)(s:ByteArray):Int:=if laB s=true then jcg (wu (laR s)) (num y m (Cal.vI y m))else -1000000
theorem jbp(h:Ng y m=true):vbu y m (Cal.vI y m)=true:=by
 have ⟨a,b,c,d⟩:=jfi h;have:=Cal.vbc y m;exact jfj ⟨a,b,c,d,Q,Q⟩
theorem jhg(y m:Int)(s:ByteArray)(w:World)(hT:Bz w)(hy:Ng y m=true):
  C 221 #[.agg #[J y,J m,I s]] w λe w'=>e=V (J (vbB y m s))/\Bw w w':=by
 have hC:=λw=>Tryz.strings_CutPrefix s ⟨#[108,97,115,116]⟩ w
 have er:(⟨(Lib.trimPrefix s.data.toList (⟨#[108,97,115,116]⟩:ByteArray).data.toList).toArray⟩:ByteArray)=laR s:=rfl;have eb:Lib.hasPrefix s.data.toList (⟨#[108,97,115,116]⟩:ByteArray).data.toList=laB s:=rfl;rw[er,eb]at hC;have ⟨y1,y2,m1,m2⟩:=jfi hy;have hM:=λw (h:Bz w)=>jbs y m w h y1 y2 m1 m2
 have hX:=λw (h:Bz w)=>je5 y m (Cal.vI y m) w h (jbp hy)
 have hD:=λw=>jcb (laR s) w
 have nb:=jb5 (jbp hy);have hF:=λw=>jdt (wu (laR s)) (num y m (Cal.vI y m)) w (jc6 _) (.inr nb)
 unfold vbB;clear er eb hy nb y1 y2 m1 m2;generalize jcg (wu (laR s)) (num y m (Cal.vI y m))=r at *;generalize wu (laR s)=v at *;generalize num y m (Cal.vI y m)=k at *;generalize Cal.vI y m=d at *;generalize laR s=sr at *;cases hb:laB s
 .rw[hb]at hC
  clear hb;simp only[Bool.false_eq_true,if_false];unfold C;go_in;go_wp2_with (go_at_call 250;refine(hC _).mono ?_;rintro e w' ⟨rfl,rfl⟩);go_ret;exact⟨rfl,ZA _ _⟩
 .rw[hb]at hC
  clear hb;simp only[if_true];unfold C;go_in;go_wp2_with fail;refine(hC _).mono ?_;rintro e w1 ⟨rfl,rfl⟩;go_upto_region 4 with fail
  go_cut [5]from 14 to 23 (λx wx=>x=.pointer (some (O (w.heap.size+1) 0))/\wx=((w.alloc (G #[J y,J m,I s] 234)).alloc (G #[J y,J m,J d] 141)).drew)
  case first=>
   go_region_held3 (λw'=>w'.cell? (O w.heap.size 0)=some (J y)/\w'.cell? (O w.heap.size 1)=some (J m)) (go_keep) ((go_at_call 219;refine(hM _ ?_).mono ?_;(first|exact hT.alloc _|exact(hT.alloc _).alloc _);rintro e w' ⟨rfl,rfl⟩))
   all_goals
    go_wp2;go_meet;exact⟨rfl,rfl⟩
  case rest=>
   obtain⟨rfl,rfl⟩:=hcut;go_wp2_with fail;have ki:=jub w (G #[J y,J m,I s] 234) (G #[J y,J m,J d] 141);have uJ:=hT.of_below ki;have k0:=cell_regrown (w:=((w.alloc (G #[J y,J m,I s] 234)).alloc (G #[J y,J m,J d] 141)).drew) (a:=(O (w.heap.size+1) 0)) (v:=J y) M;have k1:=cell_regrown (w:=((w.alloc (G #[J y,J m,I s] 234)).alloc (G #[J y,J m,J d] 141)).drew) (a:=(O (w.heap.size+1) 1)) (v:=J m) M;have k2:=cell_regrown (w:=((w.alloc (G #[J y,J m,I s] 234)).alloc (G #[J y,J m,J d] 141)).drew) (a:=(O (w.heap.size+1) 2)) (v:=J d) M;generalize ((w.alloc (G #[J y,J m,I s] 234)).alloc (G #[J y,J m,J d] 141)).drew=W at *;have cD:=rgS (W:=W) hD;have cF:=rgS (W:=W) hF;have cX:=rgA uJ hX;refine wp_region_quiet_below RG RG ?_
   repeat (quiet_step (first|(go_at_call 252;exact cD _ _)|(go_at_call 253;exact cX _ _)|(go_at_call 251;exact cF _ _)))
   refine wpQuiet_nil ?_;intro _ bM;have⟨⟨dq,aQ⟩,aO⟩:=bM;subst aO;go_wp2;go_ret;exact⟨rfl,ki.trans ((below_regrown _ dq aQ).mono ki.size)⟩
def orV(a b c d:Int):Int:=if a= -1000000 then(if b= -1000000 then(if c= -1000000 then d else c)else b)else a
def onV(y m:Int)(s:ByteArray):Int:=orV (Na y m s) (vbB y m s) (jfz y m s) (jj7 y m s)
theorem jog(y m:Int)(s:ByteArray)(w:World)(hT:Bz w)(hM:Mx w)(hy:Ng y m=true)(hz:s.size<=1048576):
  C 188 #[.agg #[J y,J m,I s]] w λe w'=>e=V (J (onV y m s))/\Bw w w':=by
 have ⟨y1,y2,m1,m2⟩:=jfi hy;have hD:=λw (h:Bz w)=>jbs y m w h y1 y2 m1 m2
 have dm:=Cal.vbc y m;have h0:=λw (h:Bz w)=>jjf y m s w h (by unfold maxLen;omega)
 have h1:=λw (h:Bz w)=>jhg y m s w h hy
 have h2:=λw (h:Bz w) (k:Mx w)=>jkh y m s w h k hz
 have h3:=λw (h:Bz w) (k:Mx w)=>jmc y m s w h k hz
 have i0:∀(w:World) (x0 x1 x2 x3:Value),(Instr.index 262 (.agg #[x0,x1,x2,x3]) (J 0)).run Tryz.prog w=.ok x0 w:=λ_ _ _ _ _=>RG
 have i1:∀(w:World) (x0 x1 x2 x3:Value),(Instr.index 262 (.agg #[x0,x1,x2,x3]) (J 1)).run Tryz.prog w=.ok x1 w:=λ_ _ _ _ _=>RG
 have i2:∀(w:World) (x0 x1 x2 x3:Value),(Instr.index 262 (.agg #[x0,x1,x2,x3]) (J 2)).run Tryz.prog w=.ok x2 w:=λ_ _ _ _ _=>RG
 have i3:∀(w:World) (x0 x1 x2 x3:Value),(Instr.index 262 (.agg #[x0,x1,x2,x3]) (J 3)).run Tryz.prog w=.ok x3 w:=λ_ _ _ _ _=>RG
 unfold onV;generalize Na y m s=d0 at *;generalize vbB y m s=d1 at *;generalize jfz y m s=d2 at *;generalize jj7 y m s=d3 at *;generalize Cal.vI y m=dd at *;have az:(dd==0)=false:=RO;clear y1 y2 m1 m2 hy;unfold C;go_in;go_wp2_with fail;refine(hD _ (hT.alloc _)).mono ?_;rintro e w' ⟨rfl,rfl⟩;go_wp2_with fail;refine wp_loop_rounds 5 ?_;rw[rounds_succ];go_wp2_with fail;refine(h0 _ ((hT.alloc _).alloc _)).mono ?_;rintro e w1 ⟨rfl,hb1⟩;have aj:=((ZA w _).alloc M _).trans (hb1.mono RO);have⟨aX,_⟩:=Z4 hb1;by_cases e0:d0= -1000000
 case neg=>
  have g0:(d0 != -1000000)=true:=by simpa using e0
  go_wp2;go_ret;exact⟨Fh (by simp[orV,e0]),aj⟩
 subst e0;have dG:=hT.of_below aj;have gR:=hM.of_below aj;have q0:w1.cell? (O w.heap.size 0)=some (J y):=by rw[aX _ _ RO];simp
 have q1:w1.cell? (O w.heap.size 1)=some (J m):=by rw[aX _ _ RO];simp
 have q2:w1.cell? (O w.heap.size 2)=some (I s):=by rw[aX _ _ RO];simp
 have hlt1:w.heap.size<w1.heap.size:=ZI q0;clear hb1 aX;go_wp2_with fail;rw[rounds_succ];go_wp2_with fail;refine(h1 _ dG).mono ?_;rintro e w2 ⟨rfl,ac⟩;have an:=Zp aj ac;have⟨cU,_⟩:=Z4 ac;by_cases e1:d1= -1000000
 case neg=>
  have g0:(d1 != -1000000)=true:=by simpa using e1
  go_wp2;go_ret;exact⟨Fh (by simp[orV,e1]),an⟩
 subst e1;have eO:=hT.of_below an;have gS:=hM.of_below an;have p0:w2.cell? (O w.heap.size 0)=some (J y):=by rw[cU _ _ hlt1];exact q0
 have p1:w2.cell? (O w.heap.size 1)=some (J m):=by rw[cU _ _ hlt1];exact q1
 have p2:w2.cell? (O w.heap.size 2)=some (I s):=by rw[cU _ _ hlt1];exact q2
 have hlt2:w.heap.size<w2.heap.size:=ZI p0;clear ac cU q0 q1 q2;go_wp2_with fail;rw[rounds_succ];go_wp2_with fail;refine(h2 _ eO gS).mono ?_;rintro e w3 ⟨rfl,ar⟩;have ax:=Zp an ar;have⟨fw,_⟩:=Z4 ar;by_cases e2:d2= -1000000
 case neg=>
  have g0:(d2 != -1000000)=true:=by simpa using e2
  go_wp2;go_ret;exact⟨Fh (by simp[orV,e2]),ax⟩
 subst e2;have j5:=hT.of_below ax;have gT:=hM.of_below ax;have q0:w3.cell? (O w.heap.size 0)=some (J y):=by rw[fw _ _ hlt2];exact p0
 have q1:w3.cell? (O w.heap.size 1)=some (J m):=by rw[fw _ _ hlt2];exact p1
 have q2:w3.cell? (O w.heap.size 2)=some (I s):=by rw[fw _ _ hlt2];exact p2
 clear ar fw p0 p1 p2;go_wp2_with fail;rw[rounds_succ];go_wp2_with fail;refine(h3 _ j5 gT).mono ?_;rintro e w4 ⟨rfl,aD⟩;have aR:=Zp ax aD;by_cases e3:d3= -1000000
 case neg=>
  have g0:(d3 != -1000000)=true:=by simpa using e3
  go_wp2;go_ret;exact⟨Fh (by simp[orV]),aR⟩
 subst e3;go_wp2_with fail;rw[rounds_succ];go_wp2;go_ret;exact⟨Fh (by simp[orV]),aR⟩
theorem joh(y m:Int)(s:ByteArray)(w:World)(hT:Bz w)(hy:Ng y m=false):
  C 188 #[.agg #[J y,J m,I s]] w λe w'=>e=V (J (-1000000))/\Bw w w':=by
 have hD:=λw (h:Bz w)=>je4 y m w h
 rw[jl4 hy]at hD;unfold C;go_in;go_wp2_with fail;refine(hD _ (hT.alloc _)).mono ?_;rintro e w' ⟨rfl,rfl⟩;go_wp2;go_ret;exact⟨rfl,ZA _ _⟩
def Nn(y m:Int)(s:ByteArray):Int:=if Ng y m=true then onV y m s else -1000000
theorem joi(y m:Int)(s:ByteArray)(w:World)(hT:Bz w)(hM:Mx w)(hz:s.size<=1048576):
  C 188 #[.agg #[J y,J m,I s]] w λe w'=>e=V (J (Nn y m s))/\Bw w w':=by
 unfold Nn;cases hy:Ng y m
 .exact joh y m s w hT hy
 .exact jog y m s w hT hM hy hz
theorem jtv(y m:Int)(s:ByteArray)(w:World)(hT:Bz w)(hM:Mx w)(hz:s.size<=8000):
  C 296 #[J y,J m,I s] w λe w'=>e=V (J (Nn y m s))/\Bw w w':=by
 have hX:=λw (h:Bz w) (k:Mx w)=>joi y m s w h k Q
 generalize Nn y m s=r at *;unfold C;go_in;go_wp2_with fail;refine(hX _ hT hM).mono ?_;rintro e w1 ⟨rfl,hb⟩;go_wp2;go_ret;exact⟨rfl,hb⟩
def aB(s:ByteArray):Bool:=decide (s.size=7)&&((s.extract 0 4).toList==[108,97,115,116])
def bB(c:UInt8)(s:ByteArray):Bool:=decide (5<s.size)&&((s.extract 3 5).toList==[c,61])
def M0(y m:Int)(s:ByteArray):Int:=if aB s=true/\wu (s.extract 4 7)≠ -1 then jcg (wu (s.extract 4 7)) (num y m (Cal.vI y m))else if bB 62 s=true then jff (wu (s.extract 0 3)) (Na y m (s.extract 5 s.size))else if bB 60 s=true then jcg (wu (s.extract 0 3)) (Na y m (s.extract 5 s.size))else Na y m s
theorem jvz(y m k:Int):num y m k=num y m 1+k-1:=by unfold num;omega
theorem jlj(t:ByteArray): -1<=Ie t/\Ie t<=999999999:=by
 unfold Ie;split
 .cases hd:vaA t
  .rw[jzn hd];omega
  .have:=jih (s:=t) (k:=t.size) Q (j3v hd).2
   rw[j2a hd];omega
 .omega
theorem jnn(h:Ng y m=true)(t:ByteArray):Na y m t=if 1<=Ie t/\Ie t<=Cal.vI y m then num y m 1+Ie t-1 else -1000000:=by
 have ⟨a,b,c,d⟩:=jfi h;unfold Na nbB Ie;by_cases h2:t.size<=2
 .rw[if_pos h2,rT h2]
  cases hd:vaA t
  .rw[jzn hd];simp
  .rw[j2a hd,j3t hd, <- jvz]
   cases hv:vbu y m (jda t t.size)
   .rw[if_neg M,if_neg]
    intro hn;exact vjm hv ⟨a,b,c,d,hn.1,hn.2⟩
   .have:=jyc hv
    rw[if_pos M,if_pos ⟨this.2.2.2.2.1,this.2.2.2.2.2⟩]
 .rw[if_neg h2];simp[h2]
theorem jce(y m:Int):num y m (Cal.vI y m)=num y m 1+Cal.vI y m-1:=jvz _ _ _
theorem jeo{a b:Nat}(hb:b<=s.size)(h:(s.extract a b).toList=l){i:Nat}{c:UInt8}(hi:l[i]? =some c):Z0 s (a+i)=(c.toNat:Int):=by
 have e:s.extract a b=S l:=by
  apply ByteArray.ext;apply Array.ext';rw[ByteArray.toList_eq]at h
  simpa [S]using h
 have⟨hlt,_⟩:=pO hi;have hz:(s.extract a b).size=l.length:=by rw[e,jxy]
 rw[ByteArray.size_extract]at hz;rw[<- jf2 hb Q,e];exact jf3 hi
theorem jc4{c:UInt8}(h:bB c s=true):5<s.size/\Z0 s 3=(c.toNat:Int)/\Z0 s 4=61:=by
 unfold bB at h;simp only[vB,decide_eq_true_eq,beq_iff_eq]at h;exact⟨h.1,jeo (a:=3) Q h.2 (i:=0) rfl,jeo (a:=3) Q h.2 (i:=1) rfl⟩
theorem jjw(h:aB s=true):s.size=7/\Z0 s 0=108/\Z0 s 1=97/\Z0 s 2=115/\Z0 s 3=116:=by
 unfold aB at h;simp only[vB,decide_eq_true_eq,beq_iff_eq]at h;exact⟨h.1,jeo (a:=0) Q h.2 (i:=0) rfl,jeo (a:=0) Q h.2 (i:=1) rfl,jeo (a:=0) Q h.2 (i:=2) rfl,jeo (a:=0) Q h.2 (i:=3) rfl⟩
theorem j1x(y m:Int)(s:ByteArray)(w:World)(hy:Ng y m=true)(ha:aB s=true)(hw:wu (s.extract 4 7)≠ -1):
  C 46 #[J y,J m,I s] w λe w'=>e=V (J (jcg (wu (s.extract 4 7)) (num y m (Cal.vI y m))))/\Bw w w':=by
 have ⟨y1,y2,m1,m2⟩:=jfi hy;have hM:=λw=>jbd y m w y1 y2
 have hF:=λw=>jb1 y m 1 w y1 y2 m1 m2 Q Q
 have dm:=Cal.vbc y m;have nl:=jb5 (jbp hy);have nf:=jb5 (jfj (y:=y) (m:=m) (d:=1) ⟨y1,y2,m1,m2,Q,Q⟩);rw[jce]at nl;have hN:=λw=>jcp (s.extract 4 7) w
 have hv:0<=wu (s.extract 4 7)/\wu (s.extract 4 7)<7:=by have:=jc6 (s.extract 4 7);omega
 have hz:=(jjw ha).1;unfold aB at ha;simp only[vB]at ha;have gZ:=ha.2;have er:jcg (wu (s.extract 4 7)) (num y m (Cal.vI y m))=num y m 1+Cal.vI y m-1-((num y m 1+Cal.vI y m-1+719163)%7-wu (s.extract 4 7)+7)%7:=by
  unfold jcg;rw[jce,if_neg Q]
 have HR:=hid er;have hW:=λw=>jct (num y m 1+Cal.vI y m-1) w Q Q
 clear ha hw er hy y1 y2 m1 m2;generalize jcg (wu (s.extract 4 7)) (num y m (Cal.vI y m))=r at *;generalize wu (s.extract 4 7)=v at *;generalize Cal.vI y m=dd at *;generalize num y m 1=q at *;have hr:0<=(q+dd-1+719163)%7/\(q+dd-1+719163)%7<7:=Q;have jm:((s.size:Int)==7)=true:=RO;generalize (q+dd-1+719163)%7=u at *;unfold C;go_in;go_wp2_with fail;refine(hM _).mono ?_;rintro e w0 ⟨rfl,rfl⟩;go_wp2_with fail;refine(hF _).mono ?_;rintro e w1 ⟨rfl,hb1⟩;go_wp2_with fail;refine(hN _).mono ?_;rintro e w2 ⟨rfl,ac⟩;have an:=Zp hb1 ac;go_wp2_with fail;refine(hW _).mono ?_;rintro e w3 ⟨rfl,rfl⟩;go_wp2;go_ret;exact⟨Fh (by rw[HR.out];omega),an⟩
theorem j0s(h:aB s=true)(c:UInt8)(hc:c.toNat≠116):bB c s=false:=by
 cases hb:bB c s
 .rfl
 .have h1:=(jjw h).2.2.2.2
  have h2:=(jc4 hb).2.1;rw[h1]at h2;omega
theorem jhy(h:2<s.size):Ie s= -1:=by unfold Ie;rw[if_neg Q]
theorem j0o{c:UInt8}(h5:5<s.size)(h:bB c s=false):((s.extract 3 5).toList==[c,61])=false:=by
 unfold bB at h;rw[rT h5]at h;simpa using h
theorem jvw(y m:Int)(s:ByteArray)(w:World)(hy:Ng y m=true)(ha:aB s=true)(hw:wu (s.extract 4 7)= -1):
  C 46 #[J y,J m,I s] w λe w'=>e=V (J (-1000000))/\Bw w w':=by
 have ⟨y1,y2,m1,m2⟩:=jfi hy;have hM:=λw=>jbd y m w y1 y2
 have hF:=λw=>jb1 y m 1 w y1 y2 m1 m2 Q Q
 have dm:=Cal.vbc y m;have nl:=jb5 (jbp hy);have nf:=jb5 (jfj (y:=y) (m:=m) (d:=1) ⟨y1,y2,m1,m2,Q,Q⟩);rw[jce]at nl;have hN:=λw=>jcp (s.extract 4 7) w
 rw[hw]at hN;have hz:=(jjw ha).1;have g1:=j0o (c:=62) Q (j0s ha 62 RN);have g2:=j0o (c:=60) Q (j0s ha 60 RN);unfold aB at ha;simp only[vB]at ha;have gZ:=ha.2;have hT:=λw=>jcu s w (by unfold maxLen;omega)
 rw[jhy Q]at hT;clear ha hw hy y1 y2 m1 m2;generalize Cal.vI y m=dd at *;generalize num y m 1=q at *;have jm:((s.size:Int)==7)=true:=RO;unfold C;go_in;go_wp2_with fail;refine(hM _).mono ?_;rintro e w0 ⟨rfl,rfl⟩;go_wp2_with fail;refine(hF _).mono ?_;rintro e w1 ⟨rfl,hb1⟩;go_wp2_with fail;refine(hN _).mono ?_;rintro e w2 ⟨rfl,ac⟩;have an:=Zp hb1 ac;go_wp2_with fail;refine(hT _).mono ?_;rintro e w3 ⟨rfl,rfl⟩;go_wp2;go_ret;exact⟨rfl,an⟩
theorem vhW(y m:Int)(s:ByteArray)(w:World)(hy:Ng y m=true)(hs:s.size<=1048576)(ha:aB s=false)(hb:bB 62 s=true)(R:Int)(hR:((wu (s.extract 0 3)= -1\/Ie (s.extract 5 s.size)<1\/Cal.vI y m<Ie (s.extract 5 s.size))->R= -1000000)/\(wu (s.extract 0 3)≠ -1->1<=Ie (s.extract 5 s.size)->Ie (s.extract 5 s.size)<=Cal.vI y m->R=num y m 1+Ie (s.extract 5 s.size)-1+(wu (s.extract 0 3)-(num y m 1+Ie (s.extract 5 s.size)-1+719163)%7+7)%7)):
  C 46 #[J y,J m,I s] w λe w'=>e=V (J (R))/\Bw w w':=by
 have ⟨y1,y2,m1,m2⟩:=jfi hy;have hM:=λw=>jbd y m w y1 y2
 have hF:=λw=>jb1 y m 1 w y1 y2 m1 m2 Q Q
 have dm:=Cal.vbc y m;have nl:=jb5 (jbp hy);have nf:=jb5 (jfj (y:=y) (m:=m) (d:=1) ⟨y1,y2,m1,m2,Q,Q⟩);rw[jce]at nl;have hN:=λw=>jcp (s.extract 0 3) w
 have hT:=λw=>jcu (s.extract 5 s.size) w (by rw[ByteArray.size_extract];unfold maxLen;omega)
 have kb:=jlj (s.extract 5 s.size);have vb:=jc6 (s.extract 0 3);have h5:=(jc4 hb).1;have fw:((s[3].toNat:Int)==62)=true:=by rw[jai s 3 Q,(jc4 hb).2.1];rfl
 have g1:((s.extract 3 5).toList==[62,61])=true:=by unfold bB at hb;simp only[vB]at hb;exact hb.2
 clear hb;clear hy y1 y2 m1 m2;generalize Cal.vI y m=dd at *;generalize num y m 1=q at *;generalize wu (s.extract 0 3)=v at *;generalize Ie (s.extract 5 s.size)=k at *;have HR:=hid hR;clear hR;unfold C;go_in;go_wp2_with fail;refine(hM _).mono ?_;rintro e w0 ⟨rfl,rfl⟩;go_wp2_with fail;refine(hF _).mono ?_;rintro e w1 ⟨rfl,hb1⟩;go_upto_region 3 with fail
 go_cut [29]from 22 to 29 (λx wx=>x=.bool false/\wx=w1)
 case first=>
  by_cases hz:s.size=7
  .have jm:((s.size:Int)==7)=true:=RO
   have gZ:((s.extract 0 4).toList==[108,97,115,116])=false:=by unfold aB at ha;rw[rT hz]at ha;simpa using ha
   clear ha;go_wp2;go_meet;exact⟨M,rfl⟩
  .have jm:((s.size:Int)==7)=false:=RO
   go_wp2;go_meet;exact⟨rfl,rfl⟩
 case rest=>
  obtain⟨rfl,rfl⟩:=hcut;go_wp2_with fail;refine(hN _).mono ?_;rintro e w2 ⟨rfl,ac⟩;have an:=Zp hb1 ac;go_wp2_with fail;refine(hT _).mono ?_;rintro e w3 ⟨rfl,rfl⟩;by_cases hv:v= -1
  .obtain rfl:R= -1000000:=HR.out.1 (.inl hv)
   subst hv;clear HR;go_wp2;go_ret;exact⟨rfl,an⟩
  have eQ:0<=v/\v<7:=Q;by_cases hk:k<1
  .obtain rfl:R= -1000000:=HR.out.1 (.inr (.inl hk))
   clear HR;go_wp2;go_ret;exact⟨rfl,an⟩
  by_cases fy:dd<k
  .obtain rfl:R= -1000000:=HR.out.1 (.inr (.inr fy))
   clear HR;go_wp2;go_ret;exact⟨rfl,an⟩
  have hW:=λw=>jct (q+k-1) w Q Q
  have aM:=HR.out.2 hv Q Q;clear HR;have hr:0<=(q+k-1+719163)%7/\(q+k-1+719163)%7<7:=Q;generalize (q+k-1+719163)%7=u at *;have lh:=hid aM;clear aM;go_wp2_with fail;refine(hW _).mono ?_;rintro e w4 ⟨rfl,rfl⟩;go_wp2;go_ret;exact⟨Fh (by rw[lh.out];omega),an⟩
theorem vhX(y m:Int)(s:ByteArray)(w:World)(hy:Ng y m=true)(hs:s.size<=1048576)(ha:aB s=false)(hb:bB 60 s=true)(R:Int)(hR:((wu (s.extract 0 3)= -1\/Ie (s.extract 5 s.size)<1\/Cal.vI y m<Ie (s.extract 5 s.size))->R= -1000000)/\(wu (s.extract 0 3)≠ -1->1<=Ie (s.extract 5 s.size)->Ie (s.extract 5 s.size)<=Cal.vI y m->R=num y m 1+Ie (s.extract 5 s.size)-1-((num y m 1+Ie (s.extract 5 s.size)-1+719163)%7-wu (s.extract 0 3)+7)%7)):
  C 46 #[J y,J m,I s] w λe w'=>e=V (J (R))/\Bw w w':=by
 have ⟨y1,y2,m1,m2⟩:=jfi hy;have hM:=λw=>jbd y m w y1 y2
 have hF:=λw=>jb1 y m 1 w y1 y2 m1 m2 Q Q
 have dm:=Cal.vbc y m;have nl:=jb5 (jbp hy);have nf:=jb5 (jfj (y:=y) (m:=m) (d:=1) ⟨y1,y2,m1,m2,Q,Q⟩);rw[jce]at nl;have hN:=λw=>jcp (s.extract 0 3) w
 have hT:=λw=>jcu (s.extract 5 s.size) w (by rw[ByteArray.size_extract];unfold maxLen;omega)
 have kb:=jlj (s.extract 5 s.size);have vb:=jc6 (s.extract 0 3);have h5:=(jc4 hb).1;have fw:((s[3].toNat:Int)==62)=false:=by rw[jai s 3 Q,(jc4 hb).2.1];rfl
 have g2:((s.extract 3 5).toList==[60,61])=true:=by unfold bB at hb;simp only[vB]at hb;exact hb.2
 have g1:((s.extract 3 5).toList==[62,61])=false:=by
  rw[beq_iff_eq]at g2;rw[g2];rfl
 clear hb;clear hy y1 y2 m1 m2;generalize Cal.vI y m=dd at *;generalize num y m 1=q at *;generalize wu (s.extract 0 3)=v at *;generalize Ie (s.extract 5 s.size)=k at *;have HR:=hid hR;clear hR;unfold C;go_in;go_wp2_with fail;refine(hM _).mono ?_;rintro e w0 ⟨rfl,rfl⟩;go_wp2_with fail;refine(hF _).mono ?_;rintro e w1 ⟨rfl,hb1⟩;go_upto_region 3 with fail
 go_cut [29]from 22 to 29 (λx wx=>x=.bool false/\wx=w1)
 case first=>
  by_cases hz:s.size=7
  .have jm:((s.size:Int)==7)=true:=RO
   have gZ:((s.extract 0 4).toList==[108,97,115,116])=false:=by unfold aB at ha;rw[rT hz]at ha;simpa using ha
   clear ha;go_wp2;go_meet;exact⟨M,rfl⟩
  .have jm:((s.size:Int)==7)=false:=RO
   go_wp2;go_meet;exact⟨rfl,rfl⟩
 case rest=>
  obtain⟨rfl,rfl⟩:=hcut;go_wp2_with fail;refine(hN _).mono ?_;rintro e w2 ⟨rfl,ac⟩;have an:=Zp hb1 ac;go_wp2_with fail;refine(hT _).mono ?_;rintro e w3 ⟨rfl,rfl⟩;by_cases hv:v= -1
  .obtain rfl:R= -1000000:=HR.out.1 (.inl hv)
   subst hv;clear HR;go_wp2;go_ret;exact⟨rfl,an⟩
  have eQ:0<=v/\v<7:=Q;by_cases hk:k<1
  .obtain rfl:R= -1000000:=HR.out.1 (.inr (.inl hk))
   clear HR;go_wp2;go_ret;exact⟨rfl,an⟩
  by_cases fy:dd<k
  .obtain rfl:R= -1000000:=HR.out.1 (.inr (.inr fy))
   clear HR;go_wp2;go_ret;exact⟨rfl,an⟩
  have hW:=λw=>jct (q+k-1) w Q Q
  have aM:=HR.out.2 hv Q Q;clear HR;have hr:0<=(q+k-1+719163)%7/\(q+k-1+719163)%7<7:=Q;generalize (q+k-1+719163)%7=u at *;have lh:=hid aM;clear aM;go_wp2_with fail;refine(hW _).mono ?_;rintro e w4 ⟨rfl,rfl⟩;go_wp2;go_ret;exact⟨Fh (by rw[lh.out];omega),an⟩
theorem jzb(y m:Int)(s:ByteArray)(w:World)(hy:Ng y m=true)(hs:s.size<=1048576)(ha:aB s=false)(h5:5<s.size)(hb1:bB 62 s=false)(ac:bB 60 s=false):
  C 46 #[J y,J m,I s] w λe w'=>e=V (J (-1000000))/\Bw w w':=by
 have ⟨y1,y2,m1,m2⟩:=jfi hy;have hM:=λw=>jbd y m w y1 y2
 have hF:=λw=>jb1 y m 1 w y1 y2 m1 m2 Q Q
 have dm:=Cal.vbc y m;have nl:=jb5 (jbp hy);have nf:=jb5 (jfj (y:=y) (m:=m) (d:=1) ⟨y1,y2,m1,m2,Q,Q⟩);rw[jce]at nl;have g1:=j0o (c:=62) h5 hb1;have g2:=j0o (c:=60) h5 ac;clear hb1 ac;have hT:=λw=>jcu s w (by unfold maxLen;omega)
 have kb:=jlj s;rw[jhy Q]at hT;clear kb;clear hy y1 y2 m1 m2;generalize Cal.vI y m=dd at *;generalize num y m 1=q at *;unfold C;go_in;go_wp2_with fail;refine(hM _).mono ?_;rintro e w0 ⟨rfl,rfl⟩;go_wp2_with fail;refine(hF _).mono ?_;rintro e w1 ⟨rfl,hb1⟩;go_upto_region 3 with fail
 go_cut [29]from 22 to 29 (λx wx=>x=.bool false/\wx=w1)
 case first=>
  by_cases hz:s.size=7
  .have jm:((s.size:Int)==7)=true:=RO
   have gZ:((s.extract 0 4).toList==[108,97,115,116])=false:=by unfold aB at ha;rw[rT hz]at ha;simpa using ha
   clear ha;go_wp2;go_meet;exact⟨M,rfl⟩
  .have jm:((s.size:Int)==7)=false:=RO
   go_wp2;go_meet;exact⟨rfl,rfl⟩
 case rest=>
  obtain⟨rfl,rfl⟩:=hcut;go_wp2_with fail;refine(hT _).mono ?_;rintro e w3 ⟨rfl,rfl⟩;go_wp2;go_ret;exact⟨rfl,hb1⟩
theorem j3d(y m:Int)(s:ByteArray)(w:World)(hy:Ng y m=true)(hs:s.size<=1048576)(ha:aB s=false)(h5:s.size<=5)(R:Int)(hR:((Ie s<1\/Cal.vI y m<Ie s)->R= -1000000)/\(1<=Ie s->Ie s<=Cal.vI y m->R=num y m 1+Ie s-1)):
  C 46 #[J y,J m,I s] w λe w'=>e=V (J (R))/\Bw w w':=by
 have ⟨y1,y2,m1,m2⟩:=jfi hy;have hM:=λw=>jbd y m w y1 y2
 have hF:=λw=>jb1 y m 1 w y1 y2 m1 m2 Q Q
 have dm:=Cal.vbc y m;have nl:=jb5 (jbp hy);have nf:=jb5 (jfj (y:=y) (m:=m) (d:=1) ⟨y1,y2,m1,m2,Q,Q⟩);rw[jce]at nl;have hT:=λw=>jcu s w (by unfold maxLen;omega)
 have kb:=jlj s;clear hy y1 y2 m1 m2;generalize Cal.vI y m=dd at *;generalize num y m 1=q at *;generalize Ie s=k at *;have HR:=hid hR;clear hR;unfold C;go_in;go_wp2_with fail;refine(hM _).mono ?_;rintro e w0 ⟨rfl,rfl⟩;go_wp2_with fail;refine(hF _).mono ?_;rintro e w1 ⟨rfl,hb1⟩;go_upto_region 3 with fail
 go_cut [29]from 22 to 29 (λx wx=>x=.bool false/\wx=w1)
 case first=>
  by_cases hz:s.size=7
  .have jm:((s.size:Int)==7)=true:=RO
   have gZ:((s.extract 0 4).toList==[108,97,115,116])=false:=by unfold aB at ha;rw[rT hz]at ha;simpa using ha
   clear ha;go_wp2;go_meet;exact⟨M,rfl⟩
  .have jm:((s.size:Int)==7)=false:=RO
   go_wp2;go_meet;exact⟨rfl,rfl⟩
 case rest=>
  obtain⟨rfl,rfl⟩:=hcut;go_wp2_with fail;refine(hT _).mono ?_;rintro e w3 ⟨rfl,rfl⟩;by_cases hk:k<1
  .obtain rfl:R= -1000000:=HR.out.1 (.inl hk)
   clear HR;go_wp2;go_ret;exact⟨rfl,hb1⟩
  by_cases fy:dd<k
  .obtain rfl:R= -1000000:=HR.out.1 (.inr fy)
   clear HR;go_wp2;go_ret;exact⟨rfl,hb1⟩
  have aM:=HR.out.2 Q Q;have lh:=hid aM;clear aM HR;go_wp2;go_ret;exact⟨Fh (by rw[lh.out]),hb1⟩
theorem jkw(y m:Int)(s:ByteArray)(w:World)(hy:Ng y m=true)(hs:s.size<=1048576):
  C 46 #[J y,J m,I s] w λe w'=>e=V (J (M0 y m s))/\Bw w w':=by
 have ⟨y1,y2,m1,m2⟩:=jfi hy;have dm:=Cal.vbc y m;have nl:=jb5 (jbp hy);have nf:=jb5 (jfj (y:=y) (m:=m) (d:=1) ⟨y1,y2,m1,m2,Q,Q⟩);rw[jce]at nl;unfold M0;cases ha:aB s
 .rw [if_neg M]
  cases h1:bB 62 s
  .rw[if_neg M]
   cases h2:bB 60 s
   .rw[if_neg M,jnn hy]
    by_cases h5:5<s.size
    .rw[jhy Q,if_neg Q]
     exact jzb y m s w hy hs ha h5 h1 h2
    .exact j3d y m s w hy hs ha Q _ ⟨λh=>if_neg Q,λh1 h2=>if_pos Q⟩
   .rw[if_pos rfl]
    unfold jcg;rw[jnn hy];refine vhX y m s w hy hs ha h2 _ ⟨λh=>if_pos ?_,λh1 h2 h3=>?_⟩
    .rcases h with h|h
     .exact .inl h
     .exact .inr (by rw[if_neg Q])
    .have e:(if 1<=Ie (s.extract 5 s.size)/\Ie (s.extract 5 s.size)<=Cal.vI y m then num y m 1+Ie (s.extract 5 s.size)-1 else -1000000)=num y m 1+Ie (s.extract 5 s.size)-1:=if_pos Q
     rw[e,if_neg Q]
  .rw[if_pos rfl]
   unfold jff;rw[jnn hy];refine vhW y m s w hy hs ha h1 _ ⟨λh=>if_pos ?_,λh1 h2 h3=>?_⟩
   .rcases h with h|h
    .exact .inl h
    .exact .inr (by rw[if_neg Q])
   .have e:(if 1<=Ie (s.extract 5 s.size)/\Ie (s.extract 5 s.size)<=Cal.vI y m then num y m 1+Ie (s.extract 5 s.size)-1 else -1000000)=num y m 1+Ie (s.extract 5 s.size)-1:=if_pos Q
    rw[e,if_neg Q]
 .by_cases hw:wu (s.extract 4 7)= -1
  .rw[if_neg (by simp[hw]),j0s ha 62 RN,j0s ha 60 RN]
   simp only[Bool.false_eq_true,if_false];rw[jnn hy s,jhy (s:=s) (by have:=(jjw ha).1;omega),if_neg Q];exact jvw y m s w hy ha hw
  .rw[if_pos ⟨rfl,hw⟩]
   exact j1x y m s w hy ha hw
theorem jzd(h:k<7):(vaW.extract (k*3) ((k+1)*3)).size=3/\∀i,i<3->65<=Z0 (vaW.extract (k*3) ((k+1)*3)) i:=by
 rcases(show k=0\/k=1\/k=2\/k=3\/k=4\/k=5\/k=6 by omega)with rfl|rfl|rfl|rfl|rfl|rfl|rfl<;>
 .refine⟨rfl,λi hi=>?_⟩
  rcases(show i=0\/i=1\/i=2 by omega)with rfl|rfl|rfl<;>decide
theorem toList_inj(h:s.toList=t.toList):s=t:=by
 rw[ByteArray.toList_eq,ByteArray.toList_eq]at h;apply ByteArray.ext;exact Array.ext' h
theorem j28(h:spG s t k n≠ -1):∃j,k<=j/\j<k+n/\spB s t j=true:=by
 induction n generalizing k with
 |zero=>exact absurd rfl h
 | succ n ih=>
  cases hb:spB s t k
  .rw[jlw hb Q]at h
   have⟨j,j1,j2,j3⟩:=ih h;exact⟨j,Q,Q,j3⟩
  .exact⟨k,Q,Q,hb⟩
theorem jlf(h:wu t≠ -1):t.size=3/\∀i,i<3->65<=Z0 t i:=by
 have⟨j,_,j2,j3⟩:=j28 h;unfold spB at j3;have e:=toList_inj (beq_iff_eq.mp j3);have:=jzd (k:=j) Q;rw[e]at this;exact this
theorem vek{a b:UInt8}:Lib.occAt s.data.toList [a,b] i=true↔(i+2<=s.size/\Z0 s i=(a.toNat:Int)/\Z0 s (i+1)=(b.toNat:Int)):=by
 unfold Lib.occAt;have hz:s.data.toList.length=s.size:=by rw[Array.length_toList];rfl
 rw[List.isPrefixOf_iff_prefix];constructor
 .rintro⟨r,hr⟩
  have hl:=congrArg List.length hr;simp[hz]at hl;have g0:s.data.toList[i]? =some a:=by
   have:=congrArg (λl=>l[0]?) hr;simpa using this.symm
  have g1:s.data.toList[i+1]? =some b:=by
   have:=congrArg (λl=>l[1]?) hr;simpa using this.symm
  have es:s=S s.data.toList:=by apply ByteArray.ext;simp
  refine⟨Q,?_,?_⟩
  .rw[es];exact jf3 g0
  .rw[es];exact jf3 g1
 .rintro⟨h1,h2,h3⟩
  have e0:s.data.toList[i]'(by omega)=a:=by
   apply UInt8.toNat_inj.mp;have:=jai s i Q;rw[h2]at this;have:s[i].toNat=a.toNat:=Q;exact this
  have e1:s.data.toList[i+1]'(by omega)=b:=by
   apply UInt8.toNat_inj.mp;have:=jai s (i+1) Q;rw[h3]at this;have:s[i+1].toNat=b.toNat:=Q;exact this
  refine⟨s.data.toList.drop (i+2),?_⟩;rw[List.drop_eq_getElem_cons (show i<s.data.toList.length by omega),List.drop_eq_getElem_cons (show i+1<s.data.toList.length by omega),e0,e1];rfl
theorem jxo{a b:UInt8}(ha:a.toNat<65)(_hb:b.toNat<65)(h5:5<=s.size)(h3:Z0 s 3=(a.toNat:Int))(h4:Z0 s 4=(b.toNat:Int))(hl:∀i,i<3->65<=Z0 s i):
  vaX s a b=s.extract 0 3/\vaY s a b=s.extract 5 s.size/\vbj s a b=true:=by
 have hz:s.data.toList.length=s.size:=by rw[Array.length_toList];rfl
 have hi:Lib.index s.data.toList [a,b]=(3:Nat):=by
  refine Lib.index_first Q (vek.mpr ⟨Q,h3,h4⟩) λj hj=>?_
  cases ho:Lib.occAt s.data.toList [a,b] j
  .rfl
  .have:=(vek.mp ho).2.1
   have:=hl j hj;omega
 have:=Lib.cutB_hit s ⟨#[a,b]⟩ 3 hi;exact this
theorem jwp{sub:List UInt8}(h:Lib.index l sub=(i:Int)):Lib.occAt l sub i=true:=by
 induction l generalizing i with
 | nil=>
  unfold Lib.index at h;split at h
  .rename_i he
   obtain rfl:i=0:=Q;have:sub=[]:=by simpa using he
   subst this;rfl
  .omega
 |cons c l ih=>
  unfold Lib.index at h;split at h
  .rename_i he
   obtain rfl:i=0:=Q;exact he
  .split at h
   .omega
   .have:=Lib.index_ge l sub
    obtain⟨j,rfl⟩:∃j,i=j+1:=⟨i-1,by rename_i h1 h2;simp at h2;omega⟩;exact ih Q
theorem jmn{a b:UInt8}(hb:vbj s a b=true)(hw:wu (vaX s a b)≠ -1):
  5<=s.size/\Z0 s 3=(a.toNat:Int)/\Z0 s 4=(b.toNat:Int)/\vaX s a b=s.extract 0 3/\vaY s a b=s.extract 5 s.size:=by
 rcases Lib.indexB_cases s ⟨#[a,b]⟩with hn|⟨i,hi,cr⟩
 .have:=Lib.cutB_miss s ⟨#[a,b]⟩ hn
  unfold vbj at hb;rw[this.2.2]at hb;cases hb
 .have hc:=Lib.cutB_hit s ⟨#[a,b]⟩ i hi
  have eA:vaX s a b=s.extract 0 i:=hc.1;have eZ:vaY s a b=s.extract (i+2) s.size:=hc.2.1;have Ki:i+2<=s.size:=cr;have h3:=(jlf hw).1;rw[eA,ByteArray.size_extract]at h3;have e3:i=3:=Q;subst e3;have ho:=vek.mp (jwp (l:=s.data.toList) (sub:=[a,b]) hi);exact⟨Q,ho.2.1,ho.2.2,eA,eZ⟩
theorem jl2(h:2<s.size):Na y m s= -1000000:=by
 unfold Na nbB;rw[if_neg RO]
theorem jq0(s:ByteArray)(a b:Nat):(s.extract a b).toList=(s.data.toList.drop a).take (b-a):=by
 rw[ByteArray.toList_eq,ByteArray.data_extract];simp[List.take_drop]
theorem vfA(h:laB s=true):4<=s.size/\laR s=s.extract 4 s.size/\(s.extract 0 4).toList=[108,97,115,116]:=by
 have hz:s.data.toList.length=s.size:=by rw[Array.length_toList];rfl
 have h':=h;unfold laB Lib.hasPrefix at h;rw[List.isPrefixOf_iff_prefix]at h;have⟨r,hr⟩:=h;have hl:=congrArg List.length hr;simp[hz]at hl;refine⟨Q,?_,?_⟩
 .unfold laR Lib.trimPrefix
  unfold laB at h';rw[if_pos h'];apply toList_inj;rw[jq0,ByteArray.toList_eq,List.take_of_length_le (by simp[hz])];simp
 .rw[jq0, <- hr];rfl
theorem vhL(h:(s.extract 0 4).toList=[108,97,115,116]):laB s=true:=by
 unfold laB Lib.hasPrefix;rw[List.isPrefixOf_iff_prefix];rw[jq0]at h;refine⟨s.data.toList.drop 4,?_⟩;rw[<- h];simp
theorem j3z{c:UInt8}(h5:5<s.size)(h3:Z0 s 3=(c.toNat:Int))(h4:Z0 s 4=61):bB c s=true:=by
 have e:s.extract 3 5=S [c,61]:=by
  have hz:(s.extract 3 5).size=2:=by rw[ByteArray.size_extract];omega
  apply jxx (by rw[hz,jxy];rfl);intro i hi;rcases(show i=0\/i=1 by omega)with rfl|rfl
  .rw[jf2 Q Q,jf3 (l:=[c,61]) (i:=0) (c:=c) rfl];exact h3
  .rw[jf2 Q Q,jf3 (l:=[c,61]) (i:=1) (c:=61) rfl];exact h4
 unfold bB;rw[e,rT h5];simp[ByteArray.toList_eq]
theorem jli{v:Int}(h:jcg v d≠ -1000000):v≠ -1/\d≠ -1000000:=by
 unfold jcg at h;by_cases hc:v= -1\/d= -1000000
 .rw[if_pos hc]at h;exact absurd rfl h
 .omega
theorem jqw{v:Int}(h:jff v d≠ -1000000):v≠ -1/\d≠ -1000000:=by
 unfold jff at h;by_cases hc:v= -1\/d= -1000000
 .rw[if_pos hc]at h;exact absurd rfl h
 .omega
theorem jrk(y m:Int){t:ByteArray}(h:t.size=0):Na y m t= -1000000:=by
 unfold Na nbB;rw[jmm h];simp
theorem jt2(h:jfz y m s≠ -1000000):bB 62 s=true:=by
 unfold jfz at h;cases hb:vbj s 62 61
 .rw[hb]at h;exact absurd rfl h
 .rw[hb,if_pos rfl]at h
  have ⟨h1,h2⟩:=jqw h;have⟨c1,c2,c3,c4,c5⟩:=jmn hb h1;refine j3z ?_ c2 c3;rcases Nat.lt_or_ge 5 s.size with hl|hl
  .exact hl
  .exact absurd (jrk y m (by rw[c5,ByteArray.size_extract];omega)) h2
theorem joa(h:jj7 y m s≠ -1000000):bB 60 s=true:=by
 unfold jj7 at h;cases hb:vbj s 60 61
 .rw[hb]at h;exact absurd rfl h
 .rw[hb,if_pos rfl]at h
  have ⟨h1,h2⟩:=jli h;have⟨c1,c2,c3,c4,c5⟩:=jmn hb h1;refine j3z ?_ c2 c3;rcases Nat.lt_or_ge 5 s.size with hl|hl
  .exact hl
  .exact absurd (jrk y m (by rw[c5,ByteArray.size_extract];omega)) h2
theorem jry(h:vbB y m s≠ -1000000):aB s=true/\wu (s.extract 4 7)≠ -1/\vbB y m s=jcg (wu (s.extract 4 7)) (num y m (Cal.vI y m)):=by
 unfold vbB at h ⊢;cases hb:laB s
 .rw[hb]at h;exact absurd rfl h
 .rw[hb,if_pos rfl]at h
  have ⟨h1,h2⟩:=jli h;have⟨l1,l2,l3⟩:=vfA hb;have hz:=(jlf h1).1;rw[l2,ByteArray.size_extract]at hz;have h7:s.size=7:=Q;rw[l2,h7]at h1;refine⟨by unfold aB;rw[l3,rT h7];rfl,h1,?_⟩;rw[if_pos rfl,l2,h7]
theorem j2t(h1:bB 62 s=true)(h2:bB 60 s=true):False:=by
 have a:=(jc4 h1).2.1;have b:=(jc4 h2).2.1;rw[a]at b;exact absurd b RN
theorem jsa{c:UInt8}(hc:c.toNat<65)(h:bB c s=true):(wu (s.extract 0 3)≠ -1->vbj s c 61=true/\vaX s c 61=s.extract 0 3/\vaY s c 61=s.extract 5 s.size)/\(wu (s.extract 0 3)= -1->vbj s c 61=true->wu (vaX s c 61)= -1):=by
 have⟨h5,h3,h4⟩:=jc4 h;constructor
 .intro hw
  have hl:=(jlf hw).2;have:=jxo (s:=s) (a:=c) (b:=61) hc RN Q h3 h4 (λi hi=>by have:=hl i hi;rw[jf2 Q Q]at this;simpa using this);exact⟨this.2.2,this.1,this.2.1⟩
 .intro hw hb
  refine Classical.byContradiction λhn=>?_
  have⟨_,_,_,c4,_⟩:=jmn hb hn;rw[c4]at hn;exact hn hw
theorem jig(hy:Ng y m=true)(s:ByteArray):onV y m s=M0 y m s:=by
 have nl:=jb5 (jbp hy);unfold onV M0;by_cases hA:aB s=true/\wu (s.extract 4 7)≠ -1
 .rw[if_pos hA]
  have h7:=(jjw hA.1).1;have hl:vbB y m s=jcg (wu (s.extract 4 7)) (num y m (Cal.vI y m)):=by
   have l3:(s.extract 0 4).toList=[108,97,115,116]:=by have:=hA.1;unfold aB at this;simp only[vB,beq_iff_eq]at this;exact this.2
   have hb:=vhL l3;unfold vbB;rw[if_pos hb,(vfA hb).2.1,h7]
  have az:vbB y m s≠ -1000000:=by
   rw[hl];unfold jcg;have:=jc6 (s.extract 4 7);rw[if_neg Q];omega
  unfold orV;rw[jl2 Q,if_pos rfl,if_neg az,hl]
 .rw[if_neg hA]
  have jg:vbB y m s= -1000000:=Classical.byContradiction λhn=>hA ⟨(jry hn).1,(jry hn).2.1⟩
  rw[jg];cases h1:bB 62 s
  .have K3:jfz y m s= -1000000:=Classical.byContradiction λhn=>by rw[jt2 hn]at h1;cases h1
   rw[K3,if_neg M];cases h2:bB 60 s
   .have hla:jj7 y m s= -1000000:=Classical.byContradiction λhn=>by rw[joa hn]at h2;cases h2
    rw[hla,if_neg M];unfold orV;by_cases hn:Na y m s= -1000000
    .rw[hn];rfl
    .rw[if_neg hn]
   .rw[if_pos rfl,jl2 (by have:=(jc4 h2).1;omega)]
    have ⟨f1,f2⟩:=jsa (s:=s) (c:=60) RN h2;have:jj7 y m s=jcg (wu (s.extract 0 3)) (Na y m (s.extract 5 s.size)):=by
     unfold jj7;by_cases hw:wu (s.extract 0 3)= -1
     .have e:jcg (wu (s.extract 0 3)) (Na y m (s.extract 5 s.size))= -1000000:=by unfold jcg;rw[if_pos (.inl hw)]
      rw[e];cases hb:vbj s 60 61
      .rfl
      .rw[if_pos rfl,f2 hw hb];unfold jcg;rw[if_pos (.inl rfl)]
     .have ⟨g1,g2,g3⟩:=f1 hw
      rw[if_pos g1,g2,g3]
    rw[this];rfl
  .rw[if_pos rfl,jl2 (by have:=(jc4 h1).1;omega)]
   have hla:jj7 y m s= -1000000:=Classical.byContradiction λhn=>j2t h1 (joa hn)
   have ⟨f1,f2⟩:=jsa (s:=s) (c:=62) RN h1;have:jfz y m s=jff (wu (s.extract 0 3)) (Na y m (s.extract 5 s.size)):=by
    unfold jfz;by_cases hw:wu (s.extract 0 3)= -1
    .have e:jff (wu (s.extract 0 3)) (Na y m (s.extract 5 s.size))= -1000000:=by unfold jff;rw[if_pos (.inl hw)]
     rw[e];cases hb:vbj s 62 61
     .rfl
     .rw[if_pos rfl,f2 hw hb];unfold jff;rw[if_pos (.inl rfl)]
    .have ⟨g1,g2,g3⟩:=f1 hw
     rw[if_pos g1,g2,g3]
   rw[this,hla];unfold orV;rw[if_pos rfl,if_pos rfl];by_cases hn:jff (wu (s.extract 0 3)) (Na y m (s.extract 5 s.size))= -1000000
   .rw[if_pos hn,hn]
   .rw[if_neg hn]
theorem jsr(h:Nn y m s≠ -1000000):Ng y m=true/\
  ((s.size<3/\num y m 1<=Nn y m s/\Nn y m s<=num y m 1+Cal.vI y m-1)\/
  (aB s=true/\wu (s.extract 4 7)=(Nn y m s+719163)%7/\Nn y m s<=num y m 1+Cal.vI y m-1/\num y m 1+Cal.vI y m-1-7<Nn y m s)\/
  (bB 62 s=true/\wu (s.extract 0 3)=(Nn y m s+719163)%7/\∃k,Nn y m (s.extract 5 s.size)=k/\k<=Nn y m s/\Nn y m s<k+7/\ -719162<=k/\k<=2932896)\/
  (bB 60 s=true/\wu (s.extract 0 3)=(Nn y m s+719163)%7/\∃k,Nn y m (s.extract 5 s.size)=k/\Nn y m s<=k/\k-7<Nn y m s/\ -719162<=k/\k<=2932896)):=by
 cases hy:Ng y m
 .exact absurd (by unfold Nn;rw[hy];rfl) h
 refine⟨rfl,?_⟩;have ht:∀s,Nn y m s=M0 y m s:=λs=>by unfold Nn;rw[hy,if_pos rfl,jig hy]
 have hk:∀t,Na y m t≠ -1000000->Nn y m t=Na y m t:=λt hn=>by
  unfold Nn onV orV;rw[hy,if_pos rfl,if_neg hn]
 rw[ht]at h ⊢;have nl:=jb5 (jbp hy);unfold M0 at h ⊢;by_cases hA:aB s=true/\wu (s.extract 4 7)≠ -1
 .rw[if_pos hA]at h ⊢
  right;left;have hb:=jc6 (s.extract 4 7);unfold jcg;rw[if_neg Q];rw[jce]at nl ⊢;exact⟨hA.1,Q,Q,Q⟩
 .rw [if_neg hA]at h ⊢
  cases h1:bB 62 s
  .rw[h1,if_neg M]at h
   rw[if_neg M];cases h2:bB 60 s
   .rw[h2,if_neg M]at h
    rw[if_neg M];left;have e:=jnn hy s;by_cases hc:1<=Ie s/\Ie s<=Cal.vI y m
    .rw[if_pos hc]at e
     rw[e];refine⟨?_,Q,Q⟩;rcases Nat.lt_or_ge s.size 3 with hl|hl
     .exact hl
     .have:=jhy (s:=s) Q;omega
    .rw[if_neg hc]at e
     exact absurd e h
   .rw[h2,if_pos rfl]at h
    rw[if_pos rfl];right;right;right;have ⟨u1,u2⟩:=jli h;have hb:=jc6 (s.extract 0 3);have nb:=jrl y m (s.extract 5 s.size);refine⟨rfl,?_,_,hk _ u2,?_,?_,Q,Q⟩
    all_goals (unfold jcg;rw[if_neg Q];omega)
  .rw[h1,if_pos rfl]at h
   rw[if_pos rfl];right;right;left;have ⟨u1,u2⟩:=jqw h;have hb:=jc6 (s.extract 0 3);have nb:=jrl y m (s.extract 5 s.size);refine⟨rfl,?_,_,hk _ u2,?_,?_,Q,Q⟩
   all_goals (unfold jff;rw[if_neg Q];omega)
theorem j1l:Nn y m s= -1000000\/(-800000<=Nn y m s/\Nn y m s<=3000000):=by
 by_cases h:Nn y m s= -1000000
 .exact .inl h
 .right
  have⟨hy,hf⟩:=jsr h;have ⟨y1,y2,m1,m2⟩:=jfi hy;have dm:=Cal.vbc y m;have nl:=jb5 (jbp hy);rw[jce]at nl;rcases hf with⟨_,_,_⟩|⟨_,_,_,_⟩|⟨_,_,k,_,_,_,_,_⟩|⟨_,_,k,_,_,_,_,_⟩<;>omega
