import Derived.Test.YtbbgeelamjmgaaaGreatDoorProg
import Derived.WalkSpells
import Derived.WalkLawsBesides
import Derived.BigQuiet
import Derived.Deep.RegionWith
import Derived.Lib.LaidTab
set_option maxHeartbeats 0
set_option linter.unusedSimpArgs false
open Go.RowKit
namespace Go.Proofs.YtbbgeelamjmgaaaGreatDoor
open Go.RowKit
abbrev Ry:=ByteArray
abbrev Rz:=Value
abbrev I(s:ByteArray):Value:=.string s
abbrev Rn:Value:=.string ⟨#[]⟩
abbrev U(a:Option Addr)(n c:Nat):Value:=.slice a n c
abbrev Z(b:Bool):Value:=.bool b
abbrev G(a:Array Value)(t:TypeId)(m:Nat×Nat:=(0,0)):Obj:=.cells a t m
abbrev V(v:Value):Ending:=.returned v
abbrev Ro(w:World)(j:Nat):Addr:=⟨w.heap.size,j,none⟩
abbrev Rp(w:World)(j:Nat):Addr:=⟨w.heap.size+1,j,none⟩
abbrev Rx(w:World)(j:Nat):Addr:=⟨w.heap.size+1+1,j,none⟩
theorem Q{p:Prop}(h:p:=by omega):p:=h
theorem M{p:Prop}(h:p:=by simp):p:=h
theorem RG{p:Prop}(h:p:=by kernel_rfl):p:=h
theorem RN{p:Prop}(h:p:=by decide):p:=h
theorem RO{p:Prop}(h:p:=by simp;omega):p:=h
theorem RP{p:Prop}(h:p:=by go_num):p:=h
theorem RQ{p:Prop}(h:p:=by simp[go_sem]):p:=h
theorem Si{p:Prop}(h:p:=by rfl):p:=h
theorem vQj{p:Prop}(h:p:=by simp<;>omega):p:=h
theorem vQs(n:Nat):n<=n+1:=Nat.le_succ n
variable{w:World}{v:Value}{hi lo n:Int}{i:Nat}{p:Prop}
abbrev Bw(a b:World):Prop:=Below a.heap.size a b
theorem ZT(w:World)(a b:Addr)(v:Value)(h:a≠b):(w.setCell a v).cell? b=w.cell? b:=World.cell?_setCell_other w a b v h
theorem Bf(w:World)(a:Addr)(v:Value){u:Value}(h:w.cell? a=some u):(w.setCell a v).cell? a=some v:=World.cell?_setCell_same w a v h
theorem nO{b:Nat}{e:TypeId}{z:Nat}{n:Nat}{l:List Value}(h:w.ownsRow b e z v n l)(o:Obj):(w.alloc o).ownsRow b e z v n l:=World.ownsRow.alloc h o
theorem ZV{α:Type}{l:List α}(h:i<l.length):l[i]? =some l[i]:=List.getElem?_eq_getElem h
theorem pO{α:Type}{l:List α}{a:α}(h:l[i]? =some a):∃h:i<l.length,l[i]=a:=List.getElem?_eq_some_iff.mp h
theorem Z8{α β:Type}{f:α→β}{l:List α}:(l.map f)[i]? =l[i]?.map f:=List.getElem?_map
theorem ui{α:Type}{l:List α}{a:α}(h:l[i]? =some a):a∈l:=List.mem_of_getElem? h
theorem Z9{α:Type}{a b:α}(h:some a=some b):a=b:=Option.some.inj h
theorem ZD(n:Nat):n≤n:=Nat.le_refl n
theorem dfe[Decidable p](h:¬p):decide p=false:=decide_eq_false h
theorem rT[Decidable p](h:p):decide p=true:=decide_eq_true h
theorem Nb[Decidable p](h:decide p=true):p:=of_decide_eq_true h
theorem vB(a b:Bool):((a&&b)=true)=(a=true∧b=true):=Bool.and_eq_true a b
theorem BX{α β:Type}{l:List α}(f:α→β):(l.map f).length=l.length:=List.length_map f
theorem MZ{α β:Type}{f:α→β}{a b:List α}:(a++b).map f=a.map f++b.map f:=List.map_append
theorem FB{α:Type}{a b:List α}:(a++b).length=a.length+b.length:=List.length_append
theorem lmc{α:Type}(y:α){a:α}{l:List α}(h:a∈l):a∈y::l:=List.mem_cons_of_mem y h
theorem lgo{α:Type}{a:α}{l:List α}(h:a∈l):∃i:Nat,l[i]? =some a:=List.getElem?_of_mem h
theorem N9{α:Type}{a b:List α}(h:i<a.length):(a++b)[i]? =a[i]? :=List.getElem?_append_left h
theorem ZU(n:Nat)(w:World):Below n w w:=Below.refl n w
theorem ZM{P:Program}{fn:Func}{R:Ending→World→Prop}{a:Act}(h:(results fn a.tmps).run P w=.ok v w)(k:a.defers=[])(r:R (V v) w):bodyPost P fn R .ret a w:=bodyPost_ret h k r
theorem wL{α:Type}(a:α):∃x,x=a:=⟨_,rfl⟩
theorem ZL{α:Type}(a:α):∃x,a=x:=⟨_,rfl⟩
abbrev J(n:Int):Value:=.int .i64 n
abbrev O(b o:Nat):Addr:=⟨b,o,none⟩
abbrev so(g n c:Nat):Value:=.slice (some ⟨g,0,none⟩) n c
abbrev nS:Value:=.slice none 0 0
abbrev C(f:Nat)(a:Array Value)(w:World)(vQQ:Ending→World→Prop):Prop:=Calls Tryz.prog f a w vQQ
theorem hid(h:p):Hid p:=h
theorem Zp{a b c:World}(h:Bw a b)(k:Bw b c):Bw a c:=h.trans (k.mono h.size)
theorem ZA(w:World)(o:Obj):Bw w (w.alloc o):=(ZU _ _).alloc (ZD _) o
theorem ZI{a:Addr}(h:w.cell? a=some v):a.block<w.heap.size:=World.block_lt_of_cell? _ _ h
theorem DV{α:Type}{l:List α}(h:i<l.length):∃x,l[i]? =some x:=⟨_,ZV h⟩
theorem ZG{a b:Bool}(h:a=b):V (.bool a)=V (.bool b):=by rw[h]
theorem Fh{k:IntKind}{a b:Int}(h:a=b):V (.int k a)=V (.int k b):=by rw[h]
theorem jle(w:World)(o:Obj)(n:Nat):Bw w ((w.alloc o).drewN n):=below_drewN (ZA _ o) n
theorem Z4{W w1:World}(hb:Bw W w1):(∀b o,b<W.heap.size->w1.cell? (O b o)=W.cell? (O b o))/\(∀b o,b<W.heap.size->w1.frozen? (O b o)=W.frozen? (O b o)):=
 ⟨λb o h=>hb.cell (p:=(O b o)) h,λb o h=>hb.frozen (p:=(O b o)) h⟩
theorem AZ{v:World}(hb:Bw w v){b o p:Nat}{u:Value}{x:Bool}(h:w.cell? (O b o)=some u)(k:w.frozen? (O b p)=x):v.frozen? (O b p)=x:=((Z4 hb).2 _ _ (World.block_lt_of_cell? _ _ h)).trans k
theorem Z7{v:World}(hb:Bw w v){b o:Nat}{u:Value}{x:Option Value}(h:w.cell? (O b o)=some u)(k:w.cell? (O b o)=x):v.cell? (O b o)=x:=((Z4 hb).1 _ _ (World.block_lt_of_cell? _ _ h)).trans k
theorem jnb(n lo hi:Int)(w:World)(h1:lo<=n)(h2:n<=hi):
  C 31 #[J n,J lo,J hi] w λe w'=>e=V (.bool true)/\w'=w:=by
 unfold C;go_in;go_wp2;go_ret;exact⟨ZG M,rfl⟩
theorem jnc(n lo hi:Int)(w:World)(h:n<lo\/hi<n):
  C 31 #[J n,J lo,J hi] w λe w'=>e=V (.bool false)/\w'=w:=by
 by_cases h1:lo<=n
 .have h2:hi<n:=Q
  clear h;unfold C;go_in;go_wp2;go_ret;exact⟨ZG RO,rfl⟩
 .clear h
  unfold C;go_in;go_wp2;go_ret;exact⟨ZG M,rfl⟩
def ZX(n lo hi:Int):Bool:=decide (lo<=n/\n<=hi)
theorem jma(h1:lo<=n)(h2:n<=hi):ZX n lo hi=true:=rT ⟨h1,h2⟩
theorem jj8(h:¬(lo<=n/\n<=hi)):ZX n lo hi=false:=dfe h
theorem jax(h:ZX n lo hi=true):lo<=n/\n<=hi:=Nb h
theorem jzo(h:ZX n lo hi=false):¬(lo<=n/\n<=hi):=of_decide_eq_false h
theorem jau(n lo hi:Int)(w:World):
  C 31 #[J n,J lo,J hi] w λe w'=>e=V (.bool (ZX n lo hi))/\w'=w:=by
 cases h:ZX n lo hi
 .exact jnc n lo hi w (by have:=jzo h;omega)
 .exact jnb n lo hi w (jax h).1 (jax h).2
end Go.Proofs.YtbbgeelamjmgaaaGreatDoor
namespace Go.Cal
def lp(y:Int):Int:=if y%4=0/\(y%100≠0\/y%400=0)then 1 else 0
def vI(y m:Int):Int:=
 if m=2 then 28+lp y else if m=4\/m=6\/m=9\/m=11 then 30 else 31
def dby(y:Int):Int:=365*(y-1)+(y-1) / 4-(y-1) / 100+(y-1) / 400
def cum(y m:Int):Int:=
 if m<=1 then 0 else if m=2 then 31 else
 (if m=3 then 59 else if m=4 then 90 else if m=5 then 120 else if m=6 then 151 else if m=7 then 181 else
 if m=8 then 212 else if m=9 then 243 else if m=10 then 273 else if m=11 then 304 else if m=12 then 334 else 365)+lp y
theorem vdC(y:Int):0<=lp y/\lp y<=1:=by unfold lp;split<;>omega
theorem vbc(y m:Int):28<=vI y m/\vI y m<=31:=by
 have:=vdC y;unfold vI;split;omega;split<;>omega
theorem veZ(y:Int):cum y 1=0:=by unfold cum;simp
theorem vcY(y m:Int)(h1:1<=m)(h2:m<=12):cum y (m+1)=cum y m+vI y m:=by
 have:=vdC y;have hm:m=1\/m=2\/m=3\/m=4\/m=5\/m=6\/m=7\/m=8\/m=9\/m=10\/m=11\/m=12:=(by omega);rcases hm with h|h|h|h|h|h|h|h|h|h|h|h<;>subst h<;>simp[cum,vI]<;>omega
theorem veX(y:Int):cum y 13=365+lp y:=by simp[cum]
theorem vd1(y m:Int):0<=cum y m/\cum y m<=366:=by
 have:=vdC y;unfold cum;repeat' split
 all_goals omega
theorem ve1(y:Int)(_h:1<=y):dby (y+1)=dby y+365+lp y:=by
 unfold dby lp;split<;>omega
theorem ve0{a b:Int}(_h0:1<=a)(_h:a<=b):dby a<=dby b:=by unfold dby;omega
theorem vd3(y:Int)(h0:1<=y)(h:y<=10000):0<=dby y/\dby y<=3652059:=by unfold dby;omega
theorem vg4:dby 10000=3652059:=by unfold dby;omega
theorem veY{y a b:Int}(h0:1<=a)(h:a<=b)(hb:b<=13):cum y a<=cum y b:=by
 obtain⟨n,rfl⟩:∃n:Nat,b=a+n:=⟨(b-a).toNat,(by omega)⟩
 induction n with
 |zero=>simp
 |succ k ih=>
  have h1:=ih (by omega) (by omega);have h2:=vcY y (a+k) (by omega) (by omega);have h3:=vbc y (a+k);have e:a+((k+1:Nat):Int)=a+k+1:=(by omega);rw[e];omega
end Go.Cal
namespace Go.Proofs.YtbbgeelamjmgaaaGreatDoor
variable{c d m n y:Int}{w:World}{b:Bool}{p:Nat->Prop}{i k:Nat}{s:ByteArray}
def lpB(y:Int):Bool:=decide (Cal.lp y=1)
theorem j3k(h:lpB y=true):Cal.lp y=1:=Nb h
theorem j19(h:lpB y=false):Cal.lp y=0:=by
 have:=of_decide_eq_false h;have:=Cal.vdC y;omega
theorem jrv(h:y%4=0/\(y%100≠0\/y%400=0)):lpB y=true:=by
 unfold lpB Cal.lp;rw[if_pos h];rfl
theorem jrw(h:¬(y%4=0/\(y%100≠0\/y%400=0))):lpB y=false:=by
 unfold lpB Cal.lp;rw[if_neg h];rfl
theorem jwd(h4:y%4=0)(tM:y%100=0):(y%400==0)=lpB y:=by
 by_cases h:y%400=0
 .rw[jrv ⟨h4,.inr h⟩];simp[h]
 .rw[jrw Q];simp[h]
theorem jwc(h4:y%4=0)(tM:¬y%100=0):true=lpB y:=(jrv ⟨h4,.inl tM⟩).symm
theorem jwb(h4:¬y%4=0):false=lpB y:=(jrw Q).symm
theorem jja(y:Int)(w:World)(h1:1<=y)(h2:y<=9999):
  C 248 #[J y] w λe w'=>e=V (.bool (lpB y))/\w'=w:=by
 unfold C;go_in;go_wp2
 all_goals go_ret
 .exact⟨ZG (jwd ‹_› ‹_›),rfl⟩
 .exact⟨ZG (jwc ‹_› ‹_›),rfl⟩
 .exact⟨ZG (jwb ‹_›),rfl⟩
theorem jgu(y:Int)(w:World)(h1:1<=y)(h2:y<=9999):
  C 118 #[J y] w λe w'=>e=V (.bool (lpB y))/\w'=w:=by
 unfold C;go_in;go_wp2
 all_goals go_ret
 .exact⟨ZG (jwd ‹_› ‹_›),rfl⟩
 .exact⟨ZG (jwc ‹_› ‹_›),rfl⟩
 .exact⟨ZG (jwb ‹_›),rfl⟩
def vcP:List Int:=[0,31,28,31,30,31,30,31,31,30,31,30,31]
def Bz(w:World):Prop:=∀i:Nat,i<13->w.cell? (O (0) i)=some (J (vcP.getD i 0))
theorem j1p(h1:1<=m)(h2:m<=12)(h:lpB y=false\/m≠2):vcP.getD m.toNat 0=Cal.vI y m:=by
 have hm:m=1\/m=2\/m=3\/m=4\/m=5\/m=6\/m=7\/m=8\/m=9\/m=10\/m=11\/m=12:=Q;rcases hm with e|e|e|e|e|e|e|e|e|e|e|e
 case inr.inl=>
  subst e;have:=j19 (h.resolve_right M);simp[vcP,Cal.vI,this]
 all_goals subst e;simp[vcP,Cal.vI]
theorem Bz.at(h:Bz w){m:Int}(h1:1<=m)(h2:m<=12):w.cell? (O (0) m.toNat)=some (J (vcP.getD m.toNat 0)):=h _ Q
theorem jbs(y m:Int)(w:World)(hT:Bz w)(h1:1<=y)(h2:y<=9999)(h3:1<=m)(h4:m<=12):
  C 219 #[J y,J m] w λe w'=>e=V (J (Cal.vI y m))/\w'=w:=by
 have cU:w.cell? (O (0) 2)=some (J 28):=hT 2 Q;by_cases hm:m=2
 .subst hm
  clear hT;cases hl:lpB y
  .have e:Cal.vI y 2=28:=by have:=j19 hl;simp[Cal.vI,this]
   rw[e];unfold C;go_in;go_wp2_with (go_at_call 248;refine(jja _ _ Q Q).mono ?_;rintro e w' ⟨rfl,rfl⟩);go_ret;exact⟨rfl,rfl⟩
  .have e:Cal.vI y 2=29:=by have:=j3k hl;simp[Cal.vI,this]
   rw[e];unfold C;go_in;go_wp2_with (go_at_call 248;refine(jja _ _ Q Q).mono ?_;rintro e w' ⟨rfl,rfl⟩);go_ret;exact⟨rfl,rfl⟩
 .have hc:=hT.at h3 h4
  rw[j1p (y:=y) h3 h4 (.inr hm)]at hc;have hb:(m==2)=false:=by simpa using hm
  clear hT cU;generalize Cal.vI y m=v at hc;unfold C;go_in;go_wp2;go_ret;exact⟨rfl,rfl⟩
def Ng(y m:Int):Bool:=decide (1<=y/\y<=9999/\1<=m/\m<=12)
theorem jfi(h:Ng y m=true):1<=y/\y<=9999/\1<=m/\m<=12:=Nb h
theorem j2x(h:Ng y m=false):y<1\/9999<y\/m<1\/12<m:=by have:=of_decide_eq_false h;omega
def jio(y m:Int):Int:=if Ng y m=true then Cal.vI y m else 0
theorem jrs(h1:1<=y)(h2:y<=9999)(h3:1<=m)(h4:m<=12):jio y m=Cal.vI y m:=by
 unfold jio Ng;rw[if_pos (rT ⟨h1,h2,h3,h4⟩)]
theorem jl4(h:Ng y m=false):jio y m=0:=by unfold jio;rw[h];rfl
theorem jzi(y m:Int):0<=jio y m/\jio y m<=31:=by
 have:=Cal.vbc y m;unfold jio;split<;>omega
theorem jgi(y m:Int)(w:World)(h:Ng y m=false):
  C 219 #[J y,J m] w λe w'=>e=V (J 0)/\w'=w:=by
 have h':=j2x h;clear h;by_cases c1:y<1
 .unfold C;go_in
  go_wp2;go_ret;exact⟨rfl,rfl⟩
 by_cases c2:9999<y
 .unfold C;go_in
  go_wp2;go_ret;exact⟨rfl,rfl⟩
 by_cases c3:m<1
 .unfold C;go_in
  go_wp2;go_ret;exact⟨rfl,rfl⟩
 have c4:12<m:=Q;clear h';unfold C;go_in;go_wp2;go_ret;exact⟨rfl,rfl⟩
theorem je4(y m:Int)(w:World)(hT:Bz w):
  C 219 #[J y,J m] w λe w'=>e=V (J (jio y m))/\w'=w:=by
 cases h:Ng y m
 .rw[jl4 h];exact jgi y m w h
 .have ⟨a,b,c,d⟩:=jfi h
  rw[jrs a b c d];exact jbs y m w hT a b c d
theorem jbd(y m:Int)(w:World)(h1:1<=y)(h2:y<=9999):
  C 79 #[J y,J m] w λe w'=>e=V (J (Cal.vI y m))/\w'=w:=by
 by_cases hm:m=2
 .subst hm
  cases hl:lpB y
  .have e:Cal.vI y 2=28:=by have:=j19 hl;simp[Cal.vI,this]
   rw[e];unfold C;go_in;go_wp2_with (go_at_call 118;refine(jgu _ _ Q Q).mono ?_;rintro e w' ⟨rfl,rfl⟩);go_ret;exact⟨rfl,rfl⟩
  .have e:Cal.vI y 2=29:=by have:=j3k hl;simp[Cal.vI,this]
   rw[e];unfold C;go_in;go_wp2_with (go_at_call 118;refine(jgu _ _ Q Q).mono ?_;rintro e w' ⟨rfl,rfl⟩);go_ret;exact⟨rfl,rfl⟩
 .have hb:(m==2)=false:=by simpa using hm
  by_cases lm:m=4\/m=6\/m=9\/m=11
  .have e:Cal.vI y m=30:=by unfold Cal.vI;rw[if_neg hm,if_pos lm]
   rw[e];rcases lm with h|h|h|h<;>subst h<;>clear hm hb e
   all_goals
    unfold C;go_in;go_wp2;go_ret;exact⟨rfl,rfl⟩
  .have e:Cal.vI y m=31:=by unfold Cal.vI;rw[if_neg hm,if_neg lm]
   rw[e];have b4:(m==4)=false:=RO;have b6:(m==6)=false:=RO;have b9:(m==9)=false:=RO;have NK:(m==11)=false:=RO;clear e lm hm;unfold C;go_in;go_wp2;go_ret;exact⟨rfl,rfl⟩
theorem Bz.of_below{w':World}(h:Bz w)(hb:Bw w w'):Bz w':=λi hi=>by
 rw[hb.cell (p:=(O (0) i)) (ZI (h i hi))];exact h i hi
theorem Bz.alloc(h:Bz w)(o:Obj):Bz (w.alloc o):=h.of_below (ZA _ o)
theorem Bz.drewN(h:Bz w)(n:Nat):Bz (w.drewN n):=h
theorem jna(y:Int)(w:World):
  C 104 #[J y] w λe w'=>e=V (.bool (ZX y 1 9999))/\w'=w:=by
 unfold C;go_in;go_wp2_with (go_at_call 31;refine(jau _ _ _ _).mono ?_;rintro e w' ⟨rfl,rfl⟩);go_ret;exact⟨rfl,rfl⟩
def vbu(y m d:Int):Bool:=decide (1<=y/\y<=9999/\1<=m/\m<=12/\1<=d/\d<=Cal.vI y m)
theorem jyc(h:vbu y m d=true):1<=y/\y<=9999/\1<=m/\m<=12/\1<=d/\d<=Cal.vI y m:=Nb h
theorem vjm(h:vbu y m d=false):¬(1<=y/\y<=9999/\1<=m/\m<=12/\1<=d/\d<=Cal.vI y m):=of_decide_eq_false h
theorem jfj(h:1<=y/\y<=9999/\1<=m/\m<=12/\1<=d/\d<=Cal.vI y m):vbu y m d=true:=rT h
theorem jul(h:¬(1<=y/\y<=9999/\1<=m/\m<=12/\1<=d/\d<=Cal.vI y m)):vbu y m d=false:=dfe h
theorem jum(h1:1<=d):vbu y m d=decide (d<=jio y m):=by
 cases h:Ng y m
 .rw[jl4 h]
  have:=j2x h;rw[jul Q]
  symm;simp;omega
 .have ⟨a,b,c,e⟩:=jfi h
  rw[jrs a b c e];by_cases hd:d<=Cal.vI y m
  .rw[jfj ⟨a,b,c,e,h1,hd⟩];simp[hd]
  .rw[jul Q];simp[hd]
theorem je6(y m d:Int)(w:World)(hT:Bz w):
  C 272 #[.agg #[J y,J m,J d]] w λe w'=>e=V (.bool (vbu y m d))/\Bw w w':=by
 by_cases h:1<=d
 .rw[jum h]
  have hM:∀o n,C 219 #[J y,J m] ((w.alloc o).drewN n) λe w'=>e=V (J (jio y m))/\w'=(w.alloc o).drewN n:=λo n=>je4 y m _ ((hT.alloc o).drewN n)
  have bd:=jzi y m;generalize jio y m=v at *;clear hT;unfold C;go_in;go_wp2_with fail;go_quiet ((go_at_call 219;exact Calls.quiet_of_same (hM _ _)));go_wp2;go_ret;exact⟨rfl,jle _ _ _⟩
 .rw[jul Q]
  have hd:decide (1<=d)=false:=by simpa using h
  clear hT;unfold C;go_in;go_wp2_with fail;go_quiet (fail);go_wp2;go_ret;exact⟨rfl,jle _ _ _⟩
def vaa(c:Int):Bool:=decide (48<=c/\c<=57)
theorem jxn(h:b=true↔(48<=c/\c<=57)):b=vaa c:=by
 unfold vaa;rw[Bool.eq_iff_iff];simpa using h
def Z0(s:ByteArray)(k:Nat):Int:=if h:k<s.size then(s[k].toNat:Int)else 0
theorem jai(s:ByteArray)(k:Nat)(h:k<s.size):(s[k].toNat:Int)=Z0 s k:=by unfold Z0;rw[dif_pos h]
theorem jd8(c:Int)(w:World):
  C 165 #[.int .u8 c] w λe w'=>e=V (.bool (vaa c))/\w'=w:=by
 unfold C;go_in;go_wp2
 all_goals go_ret
 all_goals exact⟨ZG (jxn RO),rfl⟩
theorem jdi(c:Int)(w:World):
  C 98 #[.int .u8 c] w λe w'=>e=V (.bool (vaa c))/\w'=w:=by
 unfold C;go_in;go_wp2
 all_goals go_ret
 all_goals exact⟨ZG (jxn RO),rfl⟩
theorem jye(h:p 0):Hid (∀j,j<1->p j):=λj hj=>by
 obtain rfl:j=0:=Q;exact h
theorem vcd:Hid (∀j,j<0->p j):=λj hj=>Q
theorem jbi(h:∀j,j<k->p j)(hk:p k):Hid (∀j,j<k+1->p j):=λj hj=>by
 by_cases e:j=k
 .subst e;exact hk
 .exact h j Q
theorem jxm(h:vaa c=true):48<=c/\c<=57:=Nb h
def jda(s:ByteArray):Nat->Int
 |0=>0
 |k+1=>10*jda s k+(Z0 s k-48)
def vaA(s:ByteArray):Bool:=decide (1<=s.size/\∀i,i<s.size->vaa (Z0 s i)=true)
theorem j3v(h:vaA s=true):1<=s.size/\∀i,i<s.size->vaa (Z0 s i)=true:=Nb h
theorem jmm(h:s.size=0):vaA s=false:=dfe λhn=>Q
theorem jxl(hk:k<s.size)(h:vaa (Z0 s k)=false):vaA s=false:=dfe λhn=>by rw[hn.2 k hk]at h;cases h
theorem jsg(h1:1<=s.size)(h:∀i,i<s.size->vaa (Z0 s i)=true):vaA s=true:=rT ⟨h1,h⟩
theorem jzc(h:∀j,j<k->vaa (Z0 s j)=true):0<=jda s k/\jda s k+1<=10 ^ k:=by
 induction k with
 |zero=>simp[jda]
 |succ k ih=>
  have ⟨a,b⟩:=ih (λj hj=>h j Q);have ⟨c,d⟩:=jxm (h k Q);simp only[jda];have e:(10:Int) ^ (k+1)=10*10 ^ k:=by rw[Int.pow_succ];omega
  rw[e];omega
theorem jih(hk:k<=9)(h:∀j,j<k->vaa (Z0 s j)=true):0<=jda s k/\jda s k<=999999999:=by
 have ⟨a,b⟩:=jzc h;have e:(10:Int) ^ k<=10 ^ 9:=by
  have:=Nat.pow_le_pow_right (n:=10) Q hk
  exact_mod_cast this
 omega
def drN(s:ByteArray):Int:=if vaA s=true then jda s s.size else 0
theorem j3t(h:vaA s=true):drN s=jda s s.size:=by unfold drN;rw[if_pos h]
theorem j3u(h:vaA s=false):drN s=0:=by unfold drN;rw[h];rfl
theorem vdE{a b:Int}{c d:Bool}(h1:a=b)(h2:c=d):V (.tuple #[J a,.bool c])=V (.tuple #[J b,.bool d]):=by rw[h1,h2]
theorem jje(s:ByteArray)(w:World)(hs:s.size<=9):
  C 271 #[I s] w λe w'=>e=V (.tuple #[J (drN s),.bool (vaA s)])/\w'=w:=by
 by_cases h0:s.size=0
 .have h:=jmm h0
  rw[j3u h,h];have dP:s=⟨#[]⟩:=by
   apply ByteArray.ext;have:s.data.size=0:=h0;exact Array.eq_empty_of_size_eq_zero this
  subst dP;unfold C;go_in;go_wp2;go_ret2;exact⟨rfl,rfl⟩
 .have az:s.toList.isEmpty=false:=by
   rw[ByteArray.toList_eq];cases hl:s.data.toList with
   |nil=>exact absurd (by have:=congrArg List.length hl;simpa using this) h0
   |cons _ _=>rfl
  unfold C;go_in;go_wp2;go_loop [4,5] (λx i=>∃k:Nat,k<=s.size/\i=J k/\x=J (jda s k)/\Hid (∀j,j<k->vaa (Z0 s j)=true)) (λ_ i=>s.size-(intOf i).toNat)
  .exact⟨0,Q,rfl,rfl,vcd⟩
  ·
   obtain⟨k,hk,rfl,rfl,ak⟩:=hrel;by_cases hlt:k<s.size
   .have hB:=λw=>jd8 (Z0 s k) w
    have nb:=jih (s:=s) (k:=k) Q ak.out;have e:=jai s k hlt;cases hb:vaa (Z0 s k)
    .have HB:Hid (vaA s=false):=jxl hlt hb
     rw[hb, <- e]at hB;clear hb e;go_wp2_with (go_at_call 165;refine(hB _).mono ?_;rintro e w' ⟨rfl,rfl⟩);go_ret2;exact⟨vdE (j3u HB.out).symm HB.out.symm,rfl⟩
    .have HB:=hid hb
     have ⟨b1,b2⟩:=jxm hb;have HN:Hid (jda s (k+1)=10*jda s k+((s[k].toNat:Int)-48)):=by simp only[Hid,jda];rw[e]
     rw[hb, <- e]at hB;rw[<- e]at b1 b2;clear hb e;go_wp2_with (go_at_call 165;refine(hB _).mono ?_;rintro e w' ⟨rfl,rfl⟩);go_round
     .exact⟨k+1,Q,RP,by rw[HN.out];congr 1;omega,jbi ak.out HB.out⟩
     .simp[intOf];omega
   .have e:k=s.size:=Q
    subst e;have HB:Hid (vaA s=true):=jsg Q ak.out;go_wp2;go_ret2;exact⟨vdE (j3t HB.out).symm HB.out.symm,rfl⟩
def ldN(s:ByteArray):Int:=if vaA s=true then jda s s.size else -1
theorem j2a(h:vaA s=true):ldN s=jda s s.size:=by unfold ldN;rw[if_pos h]
theorem jzn(h:vaA s=false):ldN s= -1:=by unfold ldN;rw[h];rfl
theorem viY(s:ByteArray)(w:World)(hs:s.size<=9):
  C 217 #[I s] w λe w'=>e=V (J (ldN s))/\w'=w:=by
 by_cases h0:s.size<1
 .have h:=jmm (s:=s) Q
  rw[jzn h];unfold C;go_in;go_wp2;go_ret;exact⟨rfl,rfl⟩
 .unfold C;go_in
  go_wp2;go_loop [3,4] (λx i=>∃k:Nat,k<=s.size/\i=J k/\x=J (jda s k)/\Hid (∀j,j<k->vaa (Z0 s j)=true)) (λ_ i=>s.size-(intOf i).toNat)
  .exact⟨0,Q,rfl,rfl,vcd⟩
  ·
   obtain⟨k,hk,rfl,rfl,ak⟩:=hrel;by_cases hlt:k<s.size
   .have hB:=λw=>jdi (Z0 s k) w
    have nb:=jih (s:=s) (k:=k) Q ak.out;have e:=jai s k hlt;cases hb:vaa (Z0 s k)
    .have HB:Hid (vaA s=false):=jxl hlt hb
     rw[hb, <- e]at hB;clear hb e;go_wp2_with (go_at_call 98;refine(hB _).mono ?_;rintro e w' ⟨rfl,rfl⟩);go_ret;exact⟨Fh (jzn HB.out).symm,rfl⟩
    .have HB:=hid hb
     have ⟨b1,b2⟩:=jxm hb;have HN:Hid (jda s (k+1)=10*jda s k+((s[k].toNat:Int)-48)):=by simp only[Hid,jda];rw[e]
     rw[hb, <- e]at hB;rw[<- e]at b1 b2;clear hb e;go_wp2_with (go_at_call 98;refine(hB _).mono ?_;rintro e w' ⟨rfl,rfl⟩);go_round
     .exact⟨k+1,Q,RP,by rw[HN.out],jbi ak.out HB.out⟩
     .simp[intOf];omega
   .have e:k=s.size:=Q
    subst e;have HB:Hid (vaA s=true):=jsg Q ak.out;go_wp2;go_ret;exact⟨Fh (j2a HB.out).symm,rfl⟩
def vab(c:Int):Bool:=decide (97<=c/\c<=122\/65<=c/\c<=90)
def nmB(c:Int):Bool:=vab c || vaa c || c==95 || c==47 || c==43 || c==45
theorem jwg(h:b=true↔(97<=c/\c<=122\/65<=c/\c<=90)):b=vab c:=by
 unfold vab;rw[Bool.eq_iff_iff];simpa using h
theorem jcq(c:Int)(w:World):
  C 137 #[.int .u8 c] w λe w'=>e=V (.bool (vab c))/\w'=w:=by
 unfold C;go_in;go_wp2
 all_goals go_ret
 all_goals exact⟨ZG (jwg RO),rfl⟩
theorem jcd(c:Int)(w:World):
  C 97 #[.int .u8 c] w λe w'=>e=V (.bool (vab c))/\w'=w:=by
 unfold C;go_in;go_wp2
 all_goals go_ret
 all_goals exact⟨ZG (jwg RO),rfl⟩
theorem j3e(h:b=true↔(vab c=true\/vaa c=true\/c=95\/c=47\/c=43\/c=45)):b=nmB c:=by
 unfold nmB;rw[Bool.eq_iff_iff,h];simp[or_assoc]
theorem ji9(c:Int)(w:World):
  C 138 #[.int .u8 c] w λe w'=>e=V (.bool (nmB c))/\w'=w:=by
 have hL:=λw=>jcq c w
 have hD:=λw=>jd8 c w
 cases hl:vab c
 .cases hd:vaa c
  .have key:∀b:Bool,(b=true↔(c=95\/c=47\/c=43\/c=45))->b=nmB c:=λb h=>j3e (by rw[hl,hd];simpa using h)
   rw[hl]at hL;rw[hd]at hD;have In:=hid key;clear hl hd key;unfold C;go_in;go_wp2_with (first|(go_at_call 137;refine(hL _).mono ?_;rintro e w' ⟨rfl,rfl⟩)|(go_at_call 165;refine(hD _).mono ?_;rintro e w' ⟨rfl,rfl⟩))
   all_goals go_ret
   all_goals exact⟨ZG (In.out _ (by(try simp)<;>(try omega))),rfl⟩
  .have key:nmB c=true:=by unfold nmB;rw[hd];simp
   rw[key];rw[hl]at hL;rw[hd]at hD;clear hl hd key;unfold C;go_in;go_wp2_with (first|(go_at_call 137;refine(hL _).mono ?_;rintro e w' ⟨rfl,rfl⟩)|(go_at_call 165;refine(hD _).mono ?_;rintro e w' ⟨rfl,rfl⟩));go_ret;exact⟨rfl,rfl⟩
 .have key:nmB c=true:=by unfold nmB;rw[hl];simp
  rw[key];rw[hl]at hL;clear hl key;unfold C;go_in;go_wp2_with (first|(go_at_call 137;refine(hL _).mono ?_;rintro e w' ⟨rfl,rfl⟩)|(go_at_call 165;refine(hD _).mono ?_;rintro e w' ⟨rfl,rfl⟩));go_ret;exact⟨rfl,rfl⟩
def BH(s:ByteArray):Bool:=decide (1<=s.size/\s.size<=20/\vab (Z0 s 0)=true/\∀i,i<s.size->nmB (Z0 s i)=true)
theorem jf8(h:BH s=true):1<=s.size/\s.size<=20/\vab (Z0 s 0)=true/\∀i,i<s.size->nmB (Z0 s i)=true:=Nb h
theorem jhq(h:¬(1<=s.size/\s.size<=20)):BH s=false:=dfe λhn=>h ⟨hn.1,hn.2.1⟩
theorem jro(h:vab (Z0 s 0)=false):BH s=false:=dfe λhn=>by rw[hn.2.2.1]at h;cases h
theorem jrn(hk:k<s.size)(h:nmB (Z0 s k)=false):BH s=false:=dfe λhn=>by rw[hn.2.2.2 k hk]at h;cases h
theorem jrm(h1:1<=s.size)(h2:s.size<=20)(h3:vab (Z0 s 0)=true)(h4:∀i,i<s.size->nmB (Z0 s i)=true):BH s=true:=rT ⟨h1,h2,h3,h4⟩
theorem jnm(h:vab c=true):nmB c=true:=by unfold nmB;rw[h];simp
theorem jv0:(nmB c=true)↔(vab c=true\/vaa c=true\/c=95\/c=47\/c=43\/c=45):=by
 unfold nmB;simp[or_assoc]
theorem ja7(s:ByteArray)(w:World)(hs:s.size<=maxLen):
  C 93 #[I s] w λe w'=>e=V (.bool (BH s))/\w'=w:=by
 unfold maxLen at hs;by_cases h1:s.size<1
 .rw[jhq Q]
  unfold C;go_in;go_wp2;go_ret;exact⟨rfl,rfl⟩
 by_cases h2:20<s.size
 .rw[jhq Q]
  unfold C;go_in;go_wp2;go_ret;exact⟨rfl,rfl⟩
 have bg:0<s.size:=Q;have hL:=λw=>jcq (Z0 s 0) w
 rw[<- jai s 0 bg]at hL;cases hl:vab (Z0 s 0)
 .rw[jro hl]
  rw[jai s 0 bg,hl, <- jai s 0 bg]at hL;clear hl;unfold C;go_in;go_wp2_with (go_at_call 137;refine(hL _).mono ?_;rintro e w' ⟨rfl,rfl⟩);go_ret;exact⟨rfl,rfl⟩
 .rw [jai s 0 bg,hl, <- jai s 0 bg]at hL
  have hN:=jnm hl;have HL:=hid hl;have HN:=hid hN;clear hl hN;unfold C;go_in;go_wp2_with (go_at_call 137;refine(hL _).mono ?_;rintro e w' ⟨rfl,rfl⟩);go_loop [3] (λi=>∃k:Nat,1<=k/\k<=s.size/\i=J k/\Hid (∀j,j<k->nmB (Z0 s j)=true)) (λi=>s.size-(intOf i).toNat)
  .exact⟨1,Q,Q,rfl,jye HN.out⟩
  ·
   obtain⟨k,k1,k2,rfl,ak⟩:=hrel;by_cases hlt:k<s.size
   .have hB:=λw=>ji9 (Z0 s k) w
    cases hb:nmB (Z0 s k)
    .have HB:=hid hb
     rw[hb, <- jai s k hlt]at hB;clear hb;go_wp2_with (go_at_call 138;refine(hB _).mono ?_;rintro e w' ⟨rfl,rfl⟩);go_ret;exact⟨ZG (jrn hlt HB.out).symm,rfl⟩
    .have HB:=hid hb
     rw[hb, <- jai s k hlt]at hB;clear hb;go_wp2_with (go_at_call 138;refine(hB _).mono ?_;rintro e w' ⟨rfl,rfl⟩);go_round
     .exact⟨k+1,Q,Q,RP,jbi ak.out HB.out⟩
     .simp[intOf];omega
   .go_wp2
    go_ret;exact⟨ZG (jrm Q Q HL.out (λi hi=>ak.out i Q)).symm,rfl⟩
theorem jbu(s:ByteArray)(w:World)(hs:s.size<=maxLen):
  C 60 #[I s] w λe w'=>e=V (.bool (BH s))/\w'=w:=by
 unfold maxLen at hs;by_cases h1:s.size<1
 .rw[jhq Q]
  unfold C;go_in;go_wp2;go_ret;exact⟨rfl,rfl⟩
 by_cases h2:20<s.size
 .rw[jhq Q]
  unfold C;go_in;go_wp2;go_ret;exact⟨rfl,rfl⟩
 have bg:0<s.size:=Q;have hL:=λw=>jcd (Z0 s 0) w
 rw[<- jai s 0 bg]at hL;cases hl:vab (Z0 s 0)
 .rw[jro hl]
  rw[jai s 0 bg,hl, <- jai s 0 bg]at hL;clear hl;unfold C;go_in;go_wp2_with (go_at_call 97;refine(hL _).mono ?_;rintro e w' ⟨rfl,rfl⟩);go_ret;exact⟨rfl,rfl⟩
 .rw[jai s 0 bg,hl, <- jai s 0 bg]at hL
  have HL:=hid hl;clear hl;unfold C;go_in;go_wp2_with (go_at_call 97;refine(hL _).mono ?_;rintro e w' ⟨rfl,rfl⟩);clear hL;go_loop [3] (λi=>∃k:Nat,k<=s.size/\i=J k/\Hid (∀j,j<k->nmB (Z0 s j)=true)) (λi=>s.size-(intOf i).toNat)
  .exact⟨0,Q,rfl,vcd⟩
  ·
   obtain⟨k,k2,rfl,ak⟩:=hrel;by_cases hlt:k<s.size
   .have hN:Hid (nmB (Z0 s k)=false->BH s=false):=λh=>jrn hlt h
    have hC:Hid (nmB (Z0 s k)=true↔_):=jv0;have hB:=λw=>jcd (Z0 s k) w
    have hD:=λw=>jdi (Z0 s k) w
    have e:=jai s k hlt;cases hl:vab (Z0 s k)
    .cases hd:vaa (Z0 s k)
     .rw[hl, <- e]at hB
      rw[hd, <- e]at hD;rw[hl,hd]at hC;by_cases ho:Z0 s k=95\/Z0 s k=47\/Z0 s k=43\/Z0 s k=45
      .have HB:Hid (nmB (Z0 s k)=true):=hC.out.2 (by simpa using ho)
       rw[<- e]at ho;clear hl hd e hC hN;rcases ho with ho|ho|ho|ho
       all_goals
        rw[ho]at hB hD;go_wp2_with (first|(go_at_call 97;refine(hB _).mono ?_;rintro e w' ⟨rfl,rfl⟩)|(go_at_call 98;refine(hD _).mono ?_;rintro e w' ⟨rfl,rfl⟩));go_round
        .exact⟨k+1,Q,RP,jbi ak.out HB.out⟩
        .simp[intOf];omega
      .have HB:Hid (nmB (Z0 s k)=false):=by
        cases h:nmB (Z0 s k)
        .rfl
        .exact absurd (hC.out.1 h) (by simpa using ho)
       rw[<- e]at ho;have o1:((s[k].toNat:Int) != 95)=true:=RO;have o2:((s[k].toNat:Int) != 47)=true:=RO;have o3:((s[k].toNat:Int) != 43)=true:=RO;have o4:((s[k].toNat:Int) != 45)=true:=RO;clear hl hd e hC ho;go_wp2_with (first|(go_at_call 97;refine(hB _).mono ?_;rintro e w' ⟨rfl,rfl⟩)|(go_at_call 98;refine(hD _).mono ?_;rintro e w' ⟨rfl,rfl⟩));go_ret;exact⟨ZG (hN.out HB.out).symm,rfl⟩
     .have HB:Hid (nmB (Z0 s k)=true):=by unfold nmB;rw[hd];simp[Hid]
      rw[hl, <- e]at hB;rw[hd, <- e]at hD;clear hl hd e hC hN;go_wp2_with (first|(go_at_call 97;refine(hB _).mono ?_;rintro e w' ⟨rfl,rfl⟩)|(go_at_call 98;refine(hD _).mono ?_;rintro e w' ⟨rfl,rfl⟩));go_round
      .exact⟨k+1,Q,RP,jbi ak.out HB.out⟩
      .simp[intOf];omega
    .have HB:Hid (nmB (Z0 s k)=true):=jnm hl
     rw[hl, <- e]at hB;clear hl e hC hN;go_wp2_with (first|(go_at_call 97;refine(hB _).mono ?_;rintro e w' ⟨rfl,rfl⟩)|(go_at_call 98;refine(hD _).mono ?_;rintro e w' ⟨rfl,rfl⟩));go_round
     .exact⟨k+1,Q,RP,jbi ak.out HB.out⟩
     .simp[intOf];omega
   .go_wp2
    go_ret;exact⟨ZG (jrm Q Q HL.out (λi hi=>ak.out i Q)).symm,rfl⟩
def wdv(n:Int):Int:=if ZX n (-719162) 2932896=true then(n+719163)%7 else -1
theorem jug(h1: -719162<=n)(h2:n<=2932896):wdv n=(n+719163)%7:=by unfold wdv;rw[if_pos (jma h1 h2)]
theorem j0t(h:¬(-719162<=n/\n<=2932896)):wdv n= -1:=by unfold wdv;rw[jj8 h];rfl
theorem jg3(n:Int)(w:World):
  C 274 #[J n] w λe w'=>e=V (J (wdv n))/\w'=w:=by
 by_cases h1:n< -719162
 .rw[j0t Q]
  unfold C;go_in;go_wp2;go_ret;exact⟨rfl,rfl⟩
 by_cases h2:2932896<n
 .rw[j0t Q]
  unfold C;go_in;go_wp2;go_ret;exact⟨rfl,rfl⟩
 .rw[jug Q Q]
  unfold C;go_in;go_wp2;go_ret;exact⟨Fh Q,rfl⟩
theorem jct(n:Int)(w:World)(h1: -800000<=n)(h2:n<=3000000):
  C 82 #[J n] w λe w'=>e=V (J ((n+719163)%7))/\w'=w:=by
 unfold C;go_in;go_wp2;go_ret;exact⟨Fh Q,rfl⟩
theorem jzx(y:Int)(w:World)(h1:1<=y)(h2:y<=10001):
  C 276 #[J y] w λe w'=>e=V (J (Cal.dby y))/\w'=w:=by
 unfold Cal.dby;unfold C;go_in;go_wp2;go_ret;exact⟨Fh Q,rfl⟩
theorem jyo(y:Int)(w:World)(h1:1<=y)(h2:y<=10001):
  C 119 #[J y] w λe w'=>e=V (J (Cal.dby y))/\w'=w:=by
 unfold Cal.dby;unfold C;go_in;go_wp2;go_ret;exact⟨Fh Q,rfl⟩
def num(y m d:Int):Int:=Cal.dby y-719162+Cal.cum y m+d-1
theorem je5(y m d:Int)(w:World)(hT:Bz w)(hv:vbu y m d=true):
  C 253 #[.agg #[J y,J m,J d]] w λe w'=>e=V (J (num y m d))/\Bw w w':=by
 have ⟨y1,y2,m1,m2,d1,d2⟩:=jyc hv;have hR:=λw (h:Bz w)=>je6 y m d w h
 rw[hv]at hR;have db:=Cal.vd3 y y1 Q;have dm:=Cal.vbc y m;clear hv;unfold C;go_in;go_wp2_with fail;refine(hR _ (hT.alloc _)).mono ?_;rintro e w1 ⟨rfl,hb⟩;have⟨hc,hf⟩:=Z4 hb;have hz:w.heap.size+1<=w1.heap.size:=by have:=hb.size;simpa using this
 have dG:Bz w1:=(hT.alloc _).of_below hb;have hB:Bw w w1:=(ZA _ _).trans (hb.mono M);clear hR hb hT;go_wp2_with (go_at_call 276;refine(jzx _ _ y1 Q).mono ?_;rintro e w' ⟨rfl,rfl⟩);go_loop [3,4] (λt k=>∃j:Int,1<=j/\j<=m/\k=J j/\t=J (Cal.dby y-719162+Cal.cum y j)) (λ_ k=>(m-intOf k).toNat)
 .exact⟨1,Q,Q,rfl,by rw[Cal.veZ];go_num⟩
 ·
  obtain⟨j,j1,j2,rfl,rfl⟩:=hrel;have cb:=Cal.vd1 y j;have cs:=Cal.vcY y j j1 Q;have dj:=Cal.vbc y j;have CS:=hid cs;clear cs;by_cases hlt:j<m
  .go_wp2_with (go_at_call 219;refine(jbs _ _ _ dG y1 y2 j1 Q).mono ?_;rintro e w' ⟨rfl,rfl⟩)
   go_round
   .exact⟨j+1,Q,Q,rfl,by rw[CS.out];go_num⟩
   .simp[intOf];omega
  .have e:j=m:=Q
   subst e;go_wp2;go_ret;exact⟨Fh (by unfold num;omega),hB⟩
theorem jb1(y m d:Int)(w:World)(y1:1<=y)(y2:y<=9999)(m1:1<=m)(m2:m<=12)(d1:0<=d)(d2:d<=1000):
  C 80 #[.agg #[J y,J m,J d]] w λe w'=>e=V (J (num y m d))/\Bw w w':=by
 have db:=Cal.vd3 y y1 Q;unfold C;go_in;go_wp2_with (go_at_call 119;refine(jyo _ _ y1 Q).mono ?_;rintro e w' ⟨rfl,rfl⟩);go_loop [3,4] (λt k=>∃j:Int,1<=j/\j<=m/\k=J j/\t=J (Cal.dby y-719162+Cal.cum y j)) (λ_ k=>(m-intOf k).toNat)
 .exact⟨1,Q,Q,rfl,by rw[Cal.veZ];go_num⟩
 ·
  obtain⟨j,j1,j2,rfl,rfl⟩:=hrel;have cb:=Cal.vd1 y j;have cs:=Cal.vcY y j j1 Q;have dj:=Cal.vbc y j;have CS:=hid cs;clear cs;by_cases hlt:j<m
  .go_wp2_with (go_at_call 79;refine(jbd _ _ _ y1 y2).mono ?_;rintro e w' ⟨rfl,rfl⟩)
   go_round
   .exact⟨j+1,Q,Q,rfl,by rw[CS.out];go_num⟩
   .simp[intOf];omega
  .have e:j=m:=Q
   subst e;go_wp2;go_ret;exact⟨Fh (by unfold num;omega),ZA _ _⟩
section
theorem jb5{x z:Int}(h:vbu x y z=true): -719162<=num x y z/\num x y z<=2932896:=by
 have ⟨a,b,c,d,e,f⟩:=jyc h;have h1:=Cal.vd3 x a Q;have h2:=Cal.vd1 x y;have h3:=Cal.vcY x y c d;have h4:=Cal.veY (y:=x) (a:=y+1) (b:=13) Q Q Q;have h5:=Cal.veX x;have h6:=Cal.ve1 x a;have h7:=Cal.ve0 (a:=x+1) (b:=10000) Q Q;have h8:=Cal.vg4;unfold num;omega
end
section
abbrev S(l:List UInt8):ByteArray:=⟨l.toArray⟩
theorem vgK(a b:List UInt8):S a++S b=S (a++b):=by
 apply ByteArray.ext;simp[S]
theorem jxy(l:List UInt8):(S l).size=l.length:=by simp[ByteArray.size]
theorem jf2{a b:Nat}(hb:b<=s.size)(hi:i<b-a):Z0 (s.extract a b) i=Z0 s (a+i):=by
 have h1:i<(s.extract a b).size:=by rw[ByteArray.size_extract];omega
 have h2:a+i<s.size:=Q;rw[<- jai _ _ h1, <- jai _ _ h2,ByteArray.getElem_extract]
theorem jf3{l:List UInt8}{c:UInt8}(h:l[i]? =some c):Z0 (S l) i=(c.toNat:Int):=by
 have⟨hi,hc⟩:=pO h;have h1:i<(S l).size:=by rw[jxy];exact hi
 rw[<- jai _ _ h1];subst hc;rfl
theorem jxx{t:ByteArray}(hz:s.size=t.size)(h:∀i,i<s.size->Z0 s i=Z0 t i):s=t:=by
 apply ByteArray.ext_getElem hz;intro i h1 h2;have:=h i h1;rw[<- jai _ _ h1, <- jai _ _ h2]at this;apply UInt8.toNat_inj.mp;omega
