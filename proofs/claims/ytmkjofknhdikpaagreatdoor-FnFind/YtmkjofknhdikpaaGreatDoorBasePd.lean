import Derived.Test.YtmkjofknhdikpaaGreatDoorProg
import Derived.WalkSpells
import Derived.WalkLawsBesides
import Derived.BigQuiet
import Derived.Deep.RegionWith
import Derived.Lib.LaidTab
set_option maxHeartbeats 0
set_option linter.unusedSimpArgs false
open Go.RowKit
namespace Go.Proofs.YtmkjofknhdikpaaGreatDoor
open Go.RowKit
abbrev ZZ:=ByteArray
abbrev Z0:=Value
abbrev I(s:ByteArray):Value:=.string s
abbrev ZV:Value:=.string ⟨#[]⟩
abbrev U(a:Option Addr)(n c:Nat):Value:=.slice a n c
abbrev Z(b:Bool):Value:=.bool b
abbrev G(a:Array Value)(t:TypeId)(m:Nat×Nat:=(0,0)):Obj:=.cells a t m
abbrev V(v:Value):Ending:=.returned v
abbrev ZW(w:World)(j:Nat):Addr:=⟨w.heap.size,j,none⟩
abbrev ZX(w:World)(j:Nat):Addr:=⟨w.heap.size+1,j,none⟩
abbrev ZY(w:World)(j:Nat):Addr:=⟨w.heap.size+1+1,j,none⟩
theorem Q{p:Prop}(h:p:=by omega):p:=h
theorem M{p:Prop}(h:p:=by simp):p:=h
theorem Z4{p:Prop}(h:p:=by kernel_rfl):p:=h
theorem Z5{p:Prop}(h:p:=by decide):p:=h
theorem Z6{p:Prop}(h:p:=by simp;omega):p:=h
theorem Z7{p:Prop}(h:p:=by go_num):p:=h
theorem Z8{p:Prop}(h:p:=by simp[go_sem]):p:=h
theorem Z9{p:Prop}(h:p:=by rfl):p:=h
theorem vQj{p:Prop}(h:p:=by simp<;>omega):p:=h
theorem vQs(n:Nat):n<=n+1:=Nat.le_succ n
variable{w:World}{v:Value}{hi lo n:Int}{i:Nat}{p:Prop}
abbrev Bw(a b:World):Prop:=Below a.heap.size a b
theorem Uh(w:World)(a b:Addr)(v:Value)(h:a≠b):(w.setCell a v).cell? b=w.cell? b:=World.cell?_setCell_other w a b v h
theorem U8(w:World)(a:Addr)(v:Value){u:Value}(h:w.cell? a=some u):(w.setCell a v).cell? a=some v:=World.cell?_setCell_same w a v h
theorem UC{b:Nat}{e:TypeId}{z:Nat}{n:Nat}{l:List Value}(h:w.ownsRow b e z v n l)(o:Obj):(w.alloc o).ownsRow b e z v n l:=World.ownsRow.alloc h o
theorem Ug{α:Type}{l:List α}(h:i<l.length):l[i]? =some l[i]:=List.getElem?_eq_getElem h
theorem Ux{α:Type}{l:List α}{a:α}(h:l[i]? =some a):∃h:i<l.length,l[i]=a:=List.getElem?_eq_some_iff.mp h
theorem Uv{α β:Type}{f:α→β}{l:List α}:(l.map f)[i]? =l[i]?.map f:=List.getElem?_map
theorem UH{α:Type}{l:List α}{a:α}(h:l[i]? =some a):a∈l:=List.mem_of_getElem? h
theorem Uw{α:Type}{a b:α}(h:some a=some b):a=b:=Option.some.inj h
theorem TP(n:Nat):n≤n:=Nat.le_refl n
theorem dfe[Decidable p](h:¬p):decide p=false:=decide_eq_false h
theorem Uy[Decidable p](h:p):decide p=true:=decide_eq_true h
theorem VH[Decidable p](h:decide p=true):p:=of_decide_eq_true h
theorem UM(a b:Bool):((a&&b)=true)=(a=true∧b=true):=Bool.and_eq_true a b
theorem U7{α β:Type}{l:List α}(f:α→β):(l.map f).length=l.length:=List.length_map f
theorem Vr{α β:Type}{f:α→β}{a b:List α}:(a++b).map f=a.map f++b.map f:=List.map_append
theorem Vq{α:Type}{a b:List α}:(a++b).length=a.length+b.length:=List.length_append
theorem VW{α:Type}(y:α){a:α}{l:List α}(h:a∈l):a∈y::l:=List.mem_cons_of_mem y h
theorem Wq{α:Type}{a:α}{l:List α}(h:a∈l):∃i:Nat,l[i]? =some a:=List.getElem?_of_mem h
theorem VS{α:Type}{a b:List α}(h:i<a.length):(a++b)[i]? =a[i]? :=List.getElem?_append_left h
theorem Ui(n:Nat)(w:World):Below n w w:=Below.refl n w
theorem Ue{P:Program}{fn:Func}{R:Ending→World→Prop}{a:Act}(h:(results fn a.tmps).run P w=.ok v w)(k:a.defers=[])(r:R (V v) w):bodyPost P fn R .ret a w:=bodyPost_ret h k r
theorem UL{α:Type}(a:α):∃x,x=a:=⟨_,rfl⟩
theorem TY{α:Type}(a:α):∃x,a=x:=⟨_,rfl⟩
abbrev J(n:Int):Value:=.int .i64 n
abbrev O(b o:Nat):Addr:=⟨b,o,none⟩
abbrev so(g n c:Nat):Value:=.slice (some ⟨g,0,none⟩) n c
abbrev nS:Value:=.slice none 0 0
abbrev C(f:Nat)(a:Array Value)(w:World)(OU:Ending→World→Prop):Prop:=Calls Tryz.prog f a w OU
theorem hid(h:p):Hid p:=h
theorem TJ{a b c:World}(h:Bw a b)(k:Bw b c):Bw a c:=h.trans (k.mono h.size)
theorem TK(w:World)(o:Obj):Bw w (w.alloc o):=(Ui _ _).alloc (TP _) o
theorem TV{a:Addr}(h:w.cell? a=some v):a.block<w.heap.size:=World.block_lt_of_cell? _ _ h
theorem Vb{α:Type}{l:List α}(h:i<l.length):∃x,l[i]? =some x:=⟨_,Ug h⟩
theorem TS{a b:Bool}(h:a=b):V (Z a)=V (Z b):=by rw[h]
theorem Vh{k:IntKind}{a b:Int}(h:a=b):V (.int k a)=V (.int k b):=by rw[h]
theorem jle(w:World)(o:Obj)(n:Nat):Bw w ((w.alloc o).drewN n):=below_drewN (TK _ o) n
theorem Uq{W w1:World}(hb:Bw W w1):(∀b o,b<W.heap.size->w1.cell? (O b o)=W.cell? (O b o))/\(∀b o,b<W.heap.size->w1.frozen? (O b o)=W.frozen? (O b o)):=
 ⟨λb o h=>hb.cell (p:=(O b o)) h,λb o h=>hb.frozen (p:=(O b o)) h⟩
theorem U2{v:World}(hb:Bw w v){b o p:Nat}{u:Value}{x:Bool}(h:w.cell? (O b o)=some u)(k:w.frozen? (O b p)=x):v.frozen? (O b p)=x:=((Uq hb).2 _ _ (World.block_lt_of_cell? _ _ h)).trans k
theorem Uu{v:World}(hb:Bw w v){b o:Nat}{u:Value}{x:Option Value}(h:w.cell? (O b o)=some u)(k:w.cell? (O b o)=x):v.cell? (O b o)=x:=((Uq hb).1 _ _ (World.block_lt_of_cell? _ _ h)).trans k
theorem jnb(n lo hi:Int)(w:World)(h1:lo<=n)(h2:n<=hi):
  C 25 #[J n,J lo,J hi] w λe w'=>e=V (Z true)/\w'=w:=by
 delta C;go_in;go_wp2;go_ret;exact⟨TS M,rfl⟩
theorem jnc(n lo hi:Int)(w:World)(h:n<lo\/hi<n):
  C 25 #[J n,J lo,J hi] w λe w'=>e=V (Z false)/\w'=w:=by
 by_cases h1:lo<=n
 .have h2:hi<n:=Q
  clear h;delta C;go_in;go_wp2;go_ret;exact⟨TS Z6,rfl⟩
 .clear h
  delta C;go_in;go_wp2;go_ret;exact⟨TS M,rfl⟩
def Uk(n lo hi:Int):Bool:=decide (lo<=n/\n<=hi)
theorem ZS(h1:lo<=n)(h2:n<=hi):Uk n lo hi=true:=Uy ⟨h1,h2⟩
theorem jj8(h:¬(lo<=n/\n<=hi)):Uk n lo hi=false:=dfe h
theorem WM(h:Uk n lo hi=true):lo<=n/\n<=hi:=VH h
theorem jzo(h:Uk n lo hi=false):¬(lo<=n/\n<=hi):=of_decide_eq_false h
theorem Yz(n lo hi:Int)(w:World):
  C 25 #[J n,J lo,J hi] w λe w'=>e=V (Z (Uk n lo hi))/\w'=w:=by
 cases h:Uk n lo hi
 .exact jnc n lo hi w (by have:=jzo h;omega)
 .exact jnb n lo hi w (WM h).1 (WM h).2
end Go.Proofs.YtmkjofknhdikpaaGreatDoor
namespace Go.Cal
def lp(y:Int):Int:=if y%4=0/\(y%100≠0\/y%400=0)then 1 else 0
def UN(y m:Int):Int:=
 if m=2 then 28+lp y else if m=4\/m=6\/m=9\/m=11 then 30 else 31
def Xo(y:Int):Int:=365*(y-1)+(y-1) / 4-(y-1) / 100+(y-1) / 400
def Yt(y m:Int):Int:=
 if m<=1 then 0 else if m=2 then 31 else
 (if m=3 then 59 else if m=4 then 90 else if m=5 then 120 else if m=6 then 151 else if m=7 then 181 else
 if m=8 then 212 else if m=9 then 243 else if m=10 then 273 else if m=11 then 304 else if m=12 then 334 else 365)+lp y
theorem vcf(y:Int):0<=lp y/\lp y<=1:=by unfold lp;split<;>omega
theorem Yu(y m:Int):28<=UN y m/\UN y m<=31:=by
 have:=vcf y;unfold UN;split;omega;split<;>omega
theorem vdt(y:Int):Yt y 1=0:=by unfold Yt;simp
theorem vbE(y m:Int)(h1:1<=m)(h2:m<=12):Yt y (m+1)=Yt y m+UN y m:=by
 have:=vcf y;have hm:m=1\/m=2\/m=3\/m=4\/m=5\/m=6\/m=7\/m=8\/m=9\/m=10\/m=11\/m=12:=(by omega);rcases hm with h|h|h|h|h|h|h|h|h|h|h|h<;>subst h<;>simp[Yt,UN]<;>omega
theorem vdr(y:Int):Yt y 13=365+lp y:=by simp[Yt]
theorem vcG(y m:Int):0<=Yt y m/\Yt y m<=366:=by
 have:=vcf y;unfold Yt;repeat' split
 all_goals omega
theorem vdv(y:Int)(_h:1<=y):Xo (y+1)=Xo y+365+lp y:=by
 unfold Xo lp;split<;>omega
theorem vdu{a b:Int}(_h0:1<=a)(_h:a<=b):Xo a<=Xo b:=by unfold Xo;omega
theorem vcH(y:Int)(h0:1<=y)(h:y<=10000):0<=Xo y/\Xo y<=3652059:=by unfold Xo;omega
theorem vfg:Xo 10000=3652059:=by unfold Xo;omega
theorem vds{y a b:Int}(h0:1<=a)(h:a<=b)(hb:b<=13):Yt y a<=Yt y b:=by
 obtain⟨n,rfl⟩:∃n:Nat,b=a+n:=⟨(b-a).toNat,(by omega)⟩
 induction n with
 |zero=>simp
 |succ k ih=>
  have h1:=ih (by omega) (by omega);have h2:=vbE y (a+k) (by omega) (by omega);have h3:=Yu y (a+k);have e:a+((k+1:Nat):Int)=a+k+1:=(by omega);rw[e];omega
end Go.Cal
namespace Go.Proofs.YtmkjofknhdikpaaGreatDoor
variable{c d m n y:Int}{w:World}{b:Bool}{p:Nat->Prop}{i k:Nat}{s:ByteArray}
def YT(y:Int):Bool:=decide (Cal.lp y=1)
theorem j3k(h:YT y=true):Cal.lp y=1:=VH h
theorem j19(h:YT y=false):Cal.lp y=0:=by
 have:=of_decide_eq_false h;have:=Cal.vcf y;omega
theorem jrv(h:y%4=0/\(y%100≠0\/y%400=0)):YT y=true:=by
 unfold YT Cal.lp;rw[if_pos h];rfl
theorem jrw(h:¬(y%4=0/\(y%100≠0\/y%400=0))):YT y=false:=by
 unfold YT Cal.lp;rw[if_neg h];rfl
theorem jwd(h4:y%4=0)(tM:y%100=0):(y%400==0)=YT y:=by
 by_cases h:y%400=0
 .rw[jrv ⟨h4,.inr h⟩];simp[h]
 .rw[jrw Q];simp[h]
theorem jwc(h4:y%4=0)(tM:¬y%100=0):true=YT y:=(jrv ⟨h4,.inl tM⟩).symm
theorem jwb(h4:¬y%4=0):false=YT y:=(jrw Q).symm
theorem jja(y:Int)(w:World)(h1:1<=y)(h2:y<=9999):
  C 268 #[J y] w λe w'=>e=V (Z (YT y))/\w'=w:=by
 delta C;go_in;go_wp2
 all_goals go_ret
 .exact⟨TS (jwd ‹_› ‹_›),rfl⟩
 .exact⟨TS (jwc ‹_› ‹_›),rfl⟩
 .exact⟨TS (jwb ‹_›),rfl⟩
theorem jgu(y:Int)(w:World)(h1:1<=y)(h2:y<=9999):
  C 212 #[J y] w λe w'=>e=V (Z (YT y))/\w'=w:=by
 delta C;go_in;go_wp2
 all_goals go_ret
 .exact⟨TS (jwd ‹_› ‹_›),rfl⟩
 .exact⟨TS (jwc ‹_› ‹_›),rfl⟩
 .exact⟨TS (jwb ‹_›),rfl⟩
def vbs:List Int:=[0,31,28,31,30,31,30,31,31,30,31,30,31]
def U3(w:World):Prop:=∀i:Nat,i<13->w.cell? (O (0) i)=some (J (vbs.getD i 0))
theorem j1p(h1:1<=m)(h2:m<=12)(h:YT y=false\/m≠2):vbs.getD m.toNat 0=Cal.UN y m:=by
 have hm:m=1\/m=2\/m=3\/m=4\/m=5\/m=6\/m=7\/m=8\/m=9\/m=10\/m=11\/m=12:=Q;rcases hm with e|e|e|e|e|e|e|e|e|e|e|e
 case inr.inl=>
  subst e;have:=j19 (h.resolve_right M);simp[vbs,Cal.UN,this]
 all_goals subst e;simp[vbs,Cal.UN]
theorem U3.at(h:U3 w){m:Int}(h1:1<=m)(h2:m<=12):w.cell? (O (0) m.toNat)=some (J (vbs.getD m.toNat 0)):=h _ Q
theorem jbs(y m:Int)(w:World)(hT:U3 w)(h1:1<=y)(h2:y<=9999)(h3:1<=m)(h4:m<=12):
  C 240 #[J y,J m] w λe w'=>e=V (J (Cal.UN y m))/\w'=w:=by
 have cU:w.cell? (O (0) 2)=some (J 28):=hT 2 Q;by_cases hm:m=2
 .subst hm
  clear hT;cases hl:YT y
  .have e:Cal.UN y 2=28:=by have:=j19 hl;simp[Cal.UN,this]
   rw[e];delta C;go_in;go_wp2_with (go_at_call 268;refine(jja _ _ Q Q).mono ?_;rintro e w' ⟨rfl,rfl⟩);go_ret;exact⟨rfl,rfl⟩
  .have e:Cal.UN y 2=29:=by have:=j3k hl;simp[Cal.UN,this]
   rw[e];delta C;go_in;go_wp2_with (go_at_call 268;refine(jja _ _ Q Q).mono ?_;rintro e w' ⟨rfl,rfl⟩);go_ret;exact⟨rfl,rfl⟩
 .have hc:=hT.at h3 h4
  rw[j1p (y:=y) h3 h4 (.inr hm)]at hc;have hb:(m==2)=false:=by simpa using hm
  clear hT cU;generalize Cal.UN y m=v at hc;delta C;go_in;go_wp2;go_ret;exact⟨rfl,rfl⟩
def VK(y m:Int):Bool:=decide (1<=y/\y<=9999/\1<=m/\m<=12)
theorem YQ(h:VK y m=true):1<=y/\y<=9999/\1<=m/\m<=12:=VH h
theorem j2x(h:VK y m=false):y<1\/9999<y\/m<1\/12<m:=by have:=of_decide_eq_false h;omega
def jio(y m:Int):Int:=if VK y m=true then Cal.UN y m else 0
theorem jrs(h1:1<=y)(h2:y<=9999)(h3:1<=m)(h4:m<=12):jio y m=Cal.UN y m:=by
 unfold jio VK;rw[if_pos (Uy ⟨h1,h2,h3,h4⟩)]
theorem jl4(h:VK y m=false):jio y m=0:=by unfold jio;rw[h];rfl
theorem jzi(y m:Int):0<=jio y m/\jio y m<=31:=by
 have:=Cal.Yu y m;unfold jio;split<;>omega
theorem jgi(y m:Int)(w:World)(h:VK y m=false):
  C 240 #[J y,J m] w λe w'=>e=V (J 0)/\w'=w:=by
 have h':=j2x h;clear h;by_cases c1:y<1
 .delta C;go_in
  go_wp2;go_ret;exact⟨rfl,rfl⟩
 by_cases c2:9999<y
 .delta C;go_in
  go_wp2;go_ret;exact⟨rfl,rfl⟩
 by_cases c3:m<1
 .delta C;go_in
  go_wp2;go_ret;exact⟨rfl,rfl⟩
 have c4:12<m:=Q;clear h';delta C;go_in;go_wp2;go_ret;exact⟨rfl,rfl⟩
theorem je4(y m:Int)(w:World)(hT:U3 w):
  C 240 #[J y,J m] w λe w'=>e=V (J (jio y m))/\w'=w:=by
 cases h:VK y m
 .rw[jl4 h];exact jgi y m w h
 .have ⟨a,b,c,d⟩:=YQ h
  rw[jrs a b c d];exact jbs y m w hT a b c d
theorem jbd(y m:Int)(w:World)(h1:1<=y)(h2:y<=9999):
  C 156 #[J y,J m] w λe w'=>e=V (J (Cal.UN y m))/\w'=w:=by
 by_cases hm:m=2
 .subst hm
  cases hl:YT y
  .have e:Cal.UN y 2=28:=by have:=j19 hl;simp[Cal.UN,this]
   rw[e];delta C;go_in;go_wp2_with (go_at_call 212;refine(jgu _ _ Q Q).mono ?_;rintro e w' ⟨rfl,rfl⟩);go_ret;exact⟨rfl,rfl⟩
  .have e:Cal.UN y 2=29:=by have:=j3k hl;simp[Cal.UN,this]
   rw[e];delta C;go_in;go_wp2_with (go_at_call 212;refine(jgu _ _ Q Q).mono ?_;rintro e w' ⟨rfl,rfl⟩);go_ret;exact⟨rfl,rfl⟩
 .have hb:(m==2)=false:=by simpa using hm
  by_cases lm:m=4\/m=6\/m=9\/m=11
  .have e:Cal.UN y m=30:=by unfold Cal.UN;rw[if_neg hm,if_pos lm]
   rw[e];rcases lm with h|h|h|h<;>subst h<;>clear hm hb e
   all_goals
    delta C;go_in;go_wp2;go_ret;exact⟨rfl,rfl⟩
  .have e:Cal.UN y m=31:=by unfold Cal.UN;rw[if_neg hm,if_neg lm]
   rw[e];have b4:(m==4)=false:=Z6;have b6:(m==6)=false:=Z6;have b9:(m==9)=false:=Z6;have NK:(m==11)=false:=Z6;clear e lm hm;delta C;go_in;go_wp2;go_ret;exact⟨rfl,rfl⟩
theorem U3.of_below{w':World}(h:U3 w)(hb:Bw w w'):U3 w':=λi hi=>by
 rw[hb.cell (p:=(O (0) i)) (TV (h i hi))];exact h i hi
theorem U3.alloc(h:U3 w)(o:Obj):U3 (w.alloc o):=h.of_below (TK _ o)
theorem U3.drewN(h:U3 w)(n:Nat):U3 (w.drewN n):=h
theorem jna(y:Int)(w:World):
  C 93 #[J y] w λe w'=>e=V (Z (Uk y 1 9999))/\w'=w:=by
 delta C;go_in;go_wp2_with (go_at_call 25;refine(Yz _ _ _ _).mono ?_;rintro e w' ⟨rfl,rfl⟩);go_ret;exact⟨rfl,rfl⟩
def ZD(y m d:Int):Bool:=decide (1<=y/\y<=9999/\1<=m/\m<=12/\1<=d/\d<=Cal.UN y m)
theorem jyc(h:ZD y m d=true):1<=y/\y<=9999/\1<=m/\m<=12/\1<=d/\d<=Cal.UN y m:=VH h
theorem vhO(h:ZD y m d=false):¬(1<=y/\y<=9999/\1<=m/\m<=12/\1<=d/\d<=Cal.UN y m):=of_decide_eq_false h
theorem jfj(h:1<=y/\y<=9999/\1<=m/\m<=12/\1<=d/\d<=Cal.UN y m):ZD y m d=true:=Uy h
theorem jul(h:¬(1<=y/\y<=9999/\1<=m/\m<=12/\1<=d/\d<=Cal.UN y m)):ZD y m d=false:=dfe h
theorem jum(h1:1<=d):ZD y m d=decide (d<=jio y m):=by
 cases h:VK y m
 .rw[jl4 h]
  have:=j2x h;rw[jul Q]
  symm;simp;omega
 .have ⟨a,b,c,e⟩:=YQ h
  rw[jrs a b c e];by_cases hd:d<=Cal.UN y m
  .rw[jfj ⟨a,b,c,e,h1,hd⟩];simp[hd]
  .rw[jul Q];simp[hd]
theorem je6(y m d:Int)(w:World)(hT:U3 w):
  C 290 #[.agg #[J y,J m,J d]] w λe w'=>e=V (Z (ZD y m d))/\Bw w w':=by
 by_cases h:1<=d
 .rw[jum h]
  have hM:∀o n,C 240 #[J y,J m] ((w.alloc o).drewN n) λe w'=>e=V (J (jio y m))/\w'=(w.alloc o).drewN n:=λo n=>je4 y m _ ((hT.alloc o).drewN n)
  have bd:=jzi y m;generalize jio y m=v at *;clear hT;delta C;go_in;go_wp2_with fail;go_quiet ((go_at_call 240;exact Calls.quiet_of_same (hM _ _)));go_wp2;go_ret;exact⟨rfl,jle _ _ _⟩
 .rw[jul Q]
  have hd:decide (1<=d)=false:=by simpa using h
  clear hT;delta C;go_in;go_wp2_with fail;go_quiet (fail);go_wp2;go_ret;exact⟨rfl,jle _ _ _⟩
def Wm(c:Int):Bool:=decide (48<=c/\c<=57)
theorem jxn(h:b=true↔(48<=c/\c<=57)):b=Wm c:=by
 unfold Wm;rw[Bool.eq_iff_iff];simpa using h
def Ul(s:ByteArray)(k:Nat):Int:=if h:k<s.size then(s[k].toNat:Int)else 0
theorem Wj(s:ByteArray)(k:Nat)(h:k<s.size):(s[k].toNat:Int)=Ul s k:=by unfold Ul;rw[dif_pos h]
theorem jd8(c:Int)(w:World):
  C 220 #[.int .u8 c] w λe w'=>e=V (Z (Wm c))/\w'=w:=by
 delta C;go_in;go_wp2
 all_goals go_ret
 all_goals exact⟨TS (jxn Z6),rfl⟩
theorem jdi(c:Int)(w:World):
  C 100 #[.int .u8 c] w λe w'=>e=V (Z (Wm c))/\w'=w:=by
 delta C;go_in;go_wp2
 all_goals go_ret
 all_goals exact⟨TS (jxn Z6),rfl⟩
theorem jye(h:p 0):Hid (∀j,j<1->p j):=λj hj=>by
 obtain rfl:j=0:=Q;exact h
theorem vaU:Hid (∀j,j<0->p j):=λj hj=>Q
theorem ZJ(h:∀j,j<k->p j)(hk:p k):Hid (∀j,j<k+1->p j):=λj hj=>by
 by_cases e:j=k
 .subst e;exact hk
 .exact h j Q
theorem jxm(h:Wm c=true):48<=c/\c<=57:=VH h
def WR(s:ByteArray):Nat->Int
 |0=>0
 |k+1=>10*WR s k+(Ul s k-48)
def Xi(s:ByteArray):Bool:=decide (1<=s.size/\∀i,i<s.size->Wm (Ul s i)=true)
theorem j3v(h:Xi s=true):1<=s.size/\∀i,i<s.size->Wm (Ul s i)=true:=VH h
theorem jmm(h:s.size=0):Xi s=false:=dfe λhn=>Q
theorem jxl(hk:k<s.size)(h:Wm (Ul s k)=false):Xi s=false:=dfe λhn=>by rw[hn.2 k hk]at h;cases h
theorem jsg(h1:1<=s.size)(h:∀i,i<s.size->Wm (Ul s i)=true):Xi s=true:=Uy ⟨h1,h⟩
theorem jzc(h:∀j,j<k->Wm (Ul s j)=true):0<=WR s k/\WR s k+1<=10 ^ k:=by
 induction k with
 |zero=>simp[WR]
 |succ k ih=>
  have ⟨a,b⟩:=ih (λj hj=>h j Q);have ⟨c,d⟩:=jxm (h k Q);simp only[WR];have e:(10:Int) ^ (k+1)=10*10 ^ k:=by rw[Int.pow_succ];omega
  rw[e];omega
theorem jih(hk:k<=9)(h:∀j,j<k->Wm (Ul s j)=true):0<=WR s k/\WR s k<=999999999:=by
 have ⟨a,b⟩:=jzc h;have e:(10:Int) ^ k<=10 ^ 9:=by
  have:=Nat.pow_le_pow_right (n:=10) Q hk
  exact_mod_cast this
 omega
def YL(s:ByteArray):Int:=if Xi s=true then WR s s.size else 0
theorem j3t(h:Xi s=true):YL s=WR s s.size:=by unfold YL;rw[if_pos h]
theorem j3u(h:Xi s=false):YL s=0:=by unfold YL;rw[h];rfl
theorem vci{a b:Int}{c d:Bool}(h1:a=b)(h2:c=d):V (.tuple #[J a,Z c])=V (.tuple #[J b,Z d]):=by rw[h1,h2]
theorem jje(s:ByteArray)(w:World)(hs:s.size<=9):
  C 289 #[I s] w λe w'=>e=V (.tuple #[J (YL s),Z (Xi s)])/\w'=w:=by
 by_cases h0:s.size=0
 .have h:=jmm h0
  rw[j3u h,h];have dP:s=⟨#[]⟩:=by
   apply ByteArray.ext;have:s.data.size=0:=h0;exact Array.eq_empty_of_size_eq_zero this
  subst dP;delta C;go_in;go_wp2;go_ret2;exact⟨rfl,rfl⟩
 .have az:s.toList.isEmpty=false:=by
   rw[ByteArray.toList_eq];cases hl:s.data.toList with
   |nil=>exact absurd (by have:=congrArg List.length hl;simpa using this) h0
   |cons _ _=>rfl
  delta C;go_in;go_wp2;go_loop [4,5] (λx i=>∃k:Nat,k<=s.size/\i=J k/\x=J (WR s k)/\Hid (∀j,j<k->Wm (Ul s j)=true)) (λ_ i=>s.size-(intOf i).toNat)
  .exact⟨0,Q,rfl,rfl,vaU⟩
  ·
   obtain⟨k,hk,rfl,rfl,ak⟩:=hrel;by_cases hlt:k<s.size
   .have hB:=λw=>jd8 (Ul s k) w
    have nb:=jih (s:=s) (k:=k) Q ak.out;have e:=Wj s k hlt;cases hb:Wm (Ul s k)
    .have HB:Hid (Xi s=false):=jxl hlt hb
     rw[hb, <- e]at hB;clear hb e;go_wp2_with (go_at_call 220;refine(hB _).mono ?_;rintro e w' ⟨rfl,rfl⟩);go_ret2;exact⟨vci (j3u HB.out).symm HB.out.symm,rfl⟩
    .have HB:=hid hb
     have ⟨b1,b2⟩:=jxm hb;have HN:Hid (WR s (k+1)=10*WR s k+((s[k].toNat:Int)-48)):=by simp only[Hid,WR];rw[e]
     rw[hb, <- e]at hB;rw[<- e]at b1 b2;clear hb e;go_wp2_with (go_at_call 220;refine(hB _).mono ?_;rintro e w' ⟨rfl,rfl⟩);go_round
     .exact⟨k+1,Q,Z7,by rw[HN.out];congr 1;omega,ZJ ak.out HB.out⟩
     .simp[intOf];omega
   .have e:k=s.size:=Q
    subst e;have HB:Hid (Xi s=true):=jsg Q ak.out;go_wp2;go_ret2;exact⟨vci (j3t HB.out).symm HB.out.symm,rfl⟩
def ldN(s:ByteArray):Int:=if Xi s=true then WR s s.size else -1
theorem j2a(h:Xi s=true):ldN s=WR s s.size:=by unfold ldN;rw[if_pos h]
theorem jzn(h:Xi s=false):ldN s= -1:=by unfold ldN;rw[h];rfl
theorem vhm(s:ByteArray)(w:World)(hs:s.size<=9):
  C 238 #[I s] w λe w'=>e=V (J (ldN s))/\w'=w:=by
 by_cases h0:s.size<1
 .have h:=jmm (s:=s) Q
  rw[jzn h];delta C;go_in;go_wp2;go_ret;exact⟨rfl,rfl⟩
 .delta C;go_in
  go_wp2;go_loop [3,4] (λx i=>∃k:Nat,k<=s.size/\i=J k/\x=J (WR s k)/\Hid (∀j,j<k->Wm (Ul s j)=true)) (λ_ i=>s.size-(intOf i).toNat)
  .exact⟨0,Q,rfl,rfl,vaU⟩
  ·
   obtain⟨k,hk,rfl,rfl,ak⟩:=hrel;by_cases hlt:k<s.size
   .have hB:=λw=>jdi (Ul s k) w
    have nb:=jih (s:=s) (k:=k) Q ak.out;have e:=Wj s k hlt;cases hb:Wm (Ul s k)
    .have HB:Hid (Xi s=false):=jxl hlt hb
     rw[hb, <- e]at hB;clear hb e;go_wp2_with (go_at_call 100;refine(hB _).mono ?_;rintro e w' ⟨rfl,rfl⟩);go_ret;exact⟨Vh (jzn HB.out).symm,rfl⟩
    .have HB:=hid hb
     have ⟨b1,b2⟩:=jxm hb;have HN:Hid (WR s (k+1)=10*WR s k+((s[k].toNat:Int)-48)):=by simp only[Hid,WR];rw[e]
     rw[hb, <- e]at hB;rw[<- e]at b1 b2;clear hb e;go_wp2_with (go_at_call 100;refine(hB _).mono ?_;rintro e w' ⟨rfl,rfl⟩);go_round
     .exact⟨k+1,Q,Z7,by rw[HN.out],ZJ ak.out HB.out⟩
     .simp[intOf];omega
   .have e:k=s.size:=Q
    subst e;have HB:Hid (Xi s=true):=jsg Q ak.out;go_wp2;go_ret;exact⟨Vh (j2a HB.out).symm,rfl⟩
def Wp(c:Int):Bool:=decide (97<=c/\c<=122\/65<=c/\c<=90)
def Wz(c:Int):Bool:=Wp c || Wm c || c==95 || c==47 || c==43 || c==45
theorem jwg(h:b=true↔(97<=c/\c<=122\/65<=c/\c<=90)):b=Wp c:=by
 unfold Wp;rw[Bool.eq_iff_iff];simpa using h
theorem jcq(c:Int)(w:World):
  C 175 #[.int .u8 c] w λe w'=>e=V (Z (Wp c))/\w'=w:=by
 delta C;go_in;go_wp2
 all_goals go_ret
 all_goals exact⟨TS (jwg Z6),rfl⟩
theorem jcd(c:Int)(w:World):
  C 99 #[.int .u8 c] w λe w'=>e=V (Z (Wp c))/\w'=w:=by
 delta C;go_in;go_wp2
 all_goals go_ret
 all_goals exact⟨TS (jwg Z6),rfl⟩
theorem j3e(h:b=true↔(Wp c=true\/Wm c=true\/c=95\/c=47\/c=43\/c=45)):b=Wz c:=by
 unfold Wz;rw[Bool.eq_iff_iff,h];simp[or_assoc]
theorem ji9(c:Int)(w:World):
  C 176 #[.int .u8 c] w λe w'=>e=V (Z (Wz c))/\w'=w:=by
 have hL:=λw=>jcq c w
 have hD:=λw=>jd8 c w
 cases hl:Wp c
 .cases hd:Wm c
  .have key:∀b:Bool,(b=true↔(c=95\/c=47\/c=43\/c=45))->b=Wz c:=λb h=>j3e (by rw[hl,hd];simpa using h)
   rw[hl]at hL;rw[hd]at hD;have In:=hid key;clear hl hd key;delta C;go_in;go_wp2_with (first|(go_at_call 175;refine(hL _).mono ?_;rintro e w' ⟨rfl,rfl⟩)|(go_at_call 220;refine(hD _).mono ?_;rintro e w' ⟨rfl,rfl⟩))
   all_goals go_ret
   all_goals exact⟨TS (In.out _ (by(try simp)<;>(try omega))),rfl⟩
  .have key:Wz c=true:=by unfold Wz;rw[hd];simp
   rw[key];rw[hl]at hL;rw[hd]at hD;clear hl hd key;delta C;go_in;go_wp2_with (first|(go_at_call 175;refine(hL _).mono ?_;rintro e w' ⟨rfl,rfl⟩)|(go_at_call 220;refine(hD _).mono ?_;rintro e w' ⟨rfl,rfl⟩));go_ret;exact⟨rfl,rfl⟩
 .have key:Wz c=true:=by unfold Wz;rw[hl];simp
  rw[key];rw[hl]at hL;clear hl key;delta C;go_in;go_wp2_with (first|(go_at_call 175;refine(hL _).mono ?_;rintro e w' ⟨rfl,rfl⟩)|(go_at_call 220;refine(hD _).mono ?_;rintro e w' ⟨rfl,rfl⟩));go_ret;exact⟨rfl,rfl⟩
def U6(s:ByteArray):Bool:=decide (1<=s.size/\s.size<=20/\Wp (Ul s 0)=true/\∀i,i<s.size->Wz (Ul s i)=true)
theorem jf8(h:U6 s=true):1<=s.size/\s.size<=20/\Wp (Ul s 0)=true/\∀i,i<s.size->Wz (Ul s i)=true:=VH h
theorem jhq(h:¬(1<=s.size/\s.size<=20)):U6 s=false:=dfe λhn=>h ⟨hn.1,hn.2.1⟩
theorem jro(h:Wp (Ul s 0)=false):U6 s=false:=dfe λhn=>by rw[hn.2.2.1]at h;cases h
theorem jrn(hk:k<s.size)(h:Wz (Ul s k)=false):U6 s=false:=dfe λhn=>by rw[hn.2.2.2 k hk]at h;cases h
theorem jrm(h1:1<=s.size)(h2:s.size<=20)(h3:Wp (Ul s 0)=true)(h4:∀i,i<s.size->Wz (Ul s i)=true):U6 s=true:=Uy ⟨h1,h2,h3,h4⟩
theorem jnm(h:Wp c=true):Wz c=true:=by unfold Wz;rw[h];simp
theorem jv0:(Wz c=true)↔(Wp c=true\/Wm c=true\/c=95\/c=47\/c=43\/c=45):=by
 unfold Wz;simp[or_assoc]
theorem ja7(s:ByteArray)(w:World)(hs:s.size<=maxLen):
  C 126 #[I s] w λe w'=>e=V (Z (U6 s))/\w'=w:=by
 unfold maxLen at hs;by_cases h1:s.size<1
 .rw[jhq Q]
  delta C;go_in;go_wp2;go_ret;exact⟨rfl,rfl⟩
 by_cases h2:20<s.size
 .rw[jhq Q]
  delta C;go_in;go_wp2;go_ret;exact⟨rfl,rfl⟩
 have bg:0<s.size:=Q;have hL:=λw=>jcq (Ul s 0) w
 rw[<- Wj s 0 bg]at hL;cases hl:Wp (Ul s 0)
 .rw[jro hl]
  rw[Wj s 0 bg,hl, <- Wj s 0 bg]at hL;clear hl;delta C;go_in;go_wp2_with (go_at_call 175;refine(hL _).mono ?_;rintro e w' ⟨rfl,rfl⟩);go_ret;exact⟨rfl,rfl⟩
 .rw [Wj s 0 bg,hl, <- Wj s 0 bg]at hL
  have hN:=jnm hl;have HL:=hid hl;have HN:=hid hN;clear hl hN;delta C;go_in;go_wp2_with (go_at_call 175;refine(hL _).mono ?_;rintro e w' ⟨rfl,rfl⟩);go_loop [3] (λi=>∃k:Nat,1<=k/\k<=s.size/\i=J k/\Hid (∀j,j<k->Wz (Ul s j)=true)) (λi=>s.size-(intOf i).toNat)
  .exact⟨1,Q,Q,rfl,jye HN.out⟩
  ·
   obtain⟨k,k1,k2,rfl,ak⟩:=hrel;by_cases hlt:k<s.size
   .have hB:=λw=>ji9 (Ul s k) w
    cases hb:Wz (Ul s k)
    .have HB:=hid hb
     rw[hb, <- Wj s k hlt]at hB;clear hb;go_wp2_with (go_at_call 176;refine(hB _).mono ?_;rintro e w' ⟨rfl,rfl⟩);go_ret;exact⟨TS (jrn hlt HB.out).symm,rfl⟩
    .have HB:=hid hb
     rw[hb, <- Wj s k hlt]at hB;clear hb;go_wp2_with (go_at_call 176;refine(hB _).mono ?_;rintro e w' ⟨rfl,rfl⟩);go_round
     .exact⟨k+1,Q,Q,Z7,ZJ ak.out HB.out⟩
     .simp[intOf];omega
   .go_wp2
    go_ret;exact⟨TS (jrm Q Q HL.out (λi hi=>ak.out i Q)).symm,rfl⟩
theorem jbu(s:ByteArray)(w:World)(hs:s.size<=maxLen):
  C 57 #[I s] w λe w'=>e=V (Z (U6 s))/\w'=w:=by
 unfold maxLen at hs;by_cases h1:s.size<1
 .rw[jhq Q]
  delta C;go_in;go_wp2;go_ret;exact⟨rfl,rfl⟩
 by_cases h2:20<s.size
 .rw[jhq Q]
  delta C;go_in;go_wp2;go_ret;exact⟨rfl,rfl⟩
 have bg:0<s.size:=Q;have hL:=λw=>jcd (Ul s 0) w
 rw[<- Wj s 0 bg]at hL;cases hl:Wp (Ul s 0)
 .rw[jro hl]
  rw[Wj s 0 bg,hl, <- Wj s 0 bg]at hL;clear hl;delta C;go_in;go_wp2_with (go_at_call 99;refine(hL _).mono ?_;rintro e w' ⟨rfl,rfl⟩);go_ret;exact⟨rfl,rfl⟩
 .rw[Wj s 0 bg,hl, <- Wj s 0 bg]at hL
  have HL:=hid hl;clear hl;delta C;go_in;go_wp2_with (go_at_call 99;refine(hL _).mono ?_;rintro e w' ⟨rfl,rfl⟩);clear hL;go_loop [3] (λi=>∃k:Nat,k<=s.size/\i=J k/\Hid (∀j,j<k->Wz (Ul s j)=true)) (λi=>s.size-(intOf i).toNat)
  .exact⟨0,Q,rfl,vaU⟩
  ·
   obtain⟨k,k2,rfl,ak⟩:=hrel;by_cases hlt:k<s.size
   .have hN:Hid (Wz (Ul s k)=false->U6 s=false):=λh=>jrn hlt h
    have hC:Hid (Wz (Ul s k)=true↔_):=jv0;have hB:=λw=>jcd (Ul s k) w
    have hD:=λw=>jdi (Ul s k) w
    have e:=Wj s k hlt;cases hl:Wp (Ul s k)
    .cases hd:Wm (Ul s k)
     .rw[hl, <- e]at hB
      rw[hd, <- e]at hD;rw[hl,hd]at hC;by_cases ho:Ul s k=95\/Ul s k=47\/Ul s k=43\/Ul s k=45
      .have HB:Hid (Wz (Ul s k)=true):=hC.out.2 (by simpa using ho)
       rw[<- e]at ho;clear hl hd e hC hN;rcases ho with ho|ho|ho|ho
       all_goals
        rw[ho]at hB hD;go_wp2_with (first|(go_at_call 99;refine(hB _).mono ?_;rintro e w' ⟨rfl,rfl⟩)|(go_at_call 100;refine(hD _).mono ?_;rintro e w' ⟨rfl,rfl⟩));go_round
        .exact⟨k+1,Q,Z7,ZJ ak.out HB.out⟩
        .simp[intOf];omega
      .have HB:Hid (Wz (Ul s k)=false):=by
        cases h:Wz (Ul s k)
        .rfl
        .exact absurd (hC.out.1 h) (by simpa using ho)
       rw[<- e]at ho;have o1:((s[k].toNat:Int) != 95)=true:=Z6;have o2:((s[k].toNat:Int) != 47)=true:=Z6;have o3:((s[k].toNat:Int) != 43)=true:=Z6;have o4:((s[k].toNat:Int) != 45)=true:=Z6;clear hl hd e hC ho;go_wp2_with (first|(go_at_call 99;refine(hB _).mono ?_;rintro e w' ⟨rfl,rfl⟩)|(go_at_call 100;refine(hD _).mono ?_;rintro e w' ⟨rfl,rfl⟩));go_ret;exact⟨TS (hN.out HB.out).symm,rfl⟩
     .have HB:Hid (Wz (Ul s k)=true):=by unfold Wz;rw[hd];simp[Hid]
      rw[hl, <- e]at hB;rw[hd, <- e]at hD;clear hl hd e hC hN;go_wp2_with (first|(go_at_call 99;refine(hB _).mono ?_;rintro e w' ⟨rfl,rfl⟩)|(go_at_call 100;refine(hD _).mono ?_;rintro e w' ⟨rfl,rfl⟩));go_round
      .exact⟨k+1,Q,Z7,ZJ ak.out HB.out⟩
      .simp[intOf];omega
    .have HB:Hid (Wz (Ul s k)=true):=jnm hl
     rw[hl, <- e]at hB;clear hl e hC hN;go_wp2_with (first|(go_at_call 99;refine(hB _).mono ?_;rintro e w' ⟨rfl,rfl⟩)|(go_at_call 100;refine(hD _).mono ?_;rintro e w' ⟨rfl,rfl⟩));go_round
     .exact⟨k+1,Q,Z7,ZJ ak.out HB.out⟩
     .simp[intOf];omega
   .go_wp2
    go_ret;exact⟨TS (jrm Q Q HL.out (λi hi=>ak.out i Q)).symm,rfl⟩
def wdv(n:Int):Int:=if Uk n (-719162) 2932896=true then(n+719163)%7 else -1
theorem jug(h1: -719162<=n)(h2:n<=2932896):wdv n=(n+719163)%7:=by unfold wdv;rw[if_pos (ZS h1 h2)]
theorem j0t(h:¬(-719162<=n/\n<=2932896)):wdv n= -1:=by unfold wdv;rw[jj8 h];rfl
theorem jg3(n:Int)(w:World):
  C 292 #[J n] w λe w'=>e=V (J (wdv n))/\w'=w:=by
 by_cases h1:n< -719162
 .rw[j0t Q]
  delta C;go_in;go_wp2;go_ret;exact⟨rfl,rfl⟩
 by_cases h2:2932896<n
 .rw[j0t Q]
  delta C;go_in;go_wp2;go_ret;exact⟨rfl,rfl⟩
 .rw[jug Q Q]
  delta C;go_in;go_wp2;go_ret;exact⟨Vh Q,rfl⟩
theorem jct(n:Int)(w:World)(h1: -800000<=n)(h2:n<=3000000):
  C 159 #[J n] w λe w'=>e=V (J ((n+719163)%7))/\w'=w:=by
 delta C;go_in;go_wp2;go_ret;exact⟨Vh Q,rfl⟩
theorem jzx(y:Int)(w:World)(h1:1<=y)(h2:y<=10001):
  C 294 #[J y] w λe w'=>e=V (J (Cal.Xo y))/\w'=w:=by
 unfold Cal.Xo;delta C;go_in;go_wp2;go_ret;exact⟨Vh Q,rfl⟩
theorem jyo(y:Int)(w:World)(h1:1<=y)(h2:y<=10001):
  C 213 #[J y] w λe w'=>e=V (J (Cal.Xo y))/\w'=w:=by
 unfold Cal.Xo;delta C;go_in;go_wp2;go_ret;exact⟨Vh Q,rfl⟩
def num(y m d:Int):Int:=Cal.Xo y-719162+Cal.Yt y m+d-1
theorem je5(y m d:Int)(w:World)(hT:U3 w)(hv:ZD y m d=true):
  C 273 #[.agg #[J y,J m,J d]] w λe w'=>e=V (J (num y m d))/\Bw w w':=by
 have ⟨y1,y2,m1,m2,d1,d2⟩:=jyc hv;have hR:=λw (h:U3 w)=>je6 y m d w h
 rw[hv]at hR;have db:=Cal.vcH y y1 Q;have dm:=Cal.Yu y m;clear hv;delta C;go_in;go_wp2_with fail;refine(hR _ (hT.alloc _)).mono ?_;rintro e w1 ⟨rfl,hb⟩;have⟨hc,hf⟩:=Uq hb;have hz:w.heap.size+1<=w1.heap.size:=by have:=hb.size;simpa using this
 have dG:U3 w1:=(hT.alloc _).of_below hb;have hB:Bw w w1:=(TK _ _).trans (hb.mono M);clear hR hb hT;go_wp2_with (go_at_call 294;refine(jzx _ _ y1 Q).mono ?_;rintro e w' ⟨rfl,rfl⟩);go_loop [3,4] (λt k=>∃j:Int,1<=j/\j<=m/\k=J j/\t=J (Cal.Xo y-719162+Cal.Yt y j)) (λ_ k=>(m-intOf k).toNat)
 .exact⟨1,Q,Q,rfl,by rw[Cal.vdt];go_num⟩
 ·
  obtain⟨j,j1,j2,rfl,rfl⟩:=hrel;have cb:=Cal.vcG y j;have cs:=Cal.vbE y j j1 Q;have dj:=Cal.Yu y j;have CS:=hid cs;clear cs;by_cases hlt:j<m
  .go_wp2_with (go_at_call 240;refine(jbs _ _ _ dG y1 y2 j1 Q).mono ?_;rintro e w' ⟨rfl,rfl⟩)
   go_round
   .exact⟨j+1,Q,Q,rfl,by rw[CS.out];go_num⟩
   .simp[intOf];omega
  .have e:j=m:=Q
   subst e;go_wp2;go_ret;exact⟨Vh (by unfold num;omega),hB⟩
theorem jb1(y m d:Int)(w:World)(y1:1<=y)(y2:y<=9999)(m1:1<=m)(m2:m<=12)(d1:0<=d)(d2:d<=1000):
  C 157 #[.agg #[J y,J m,J d]] w λe w'=>e=V (J (num y m d))/\Bw w w':=by
 have db:=Cal.vcH y y1 Q;delta C;go_in;go_wp2_with (go_at_call 213;refine(jyo _ _ y1 Q).mono ?_;rintro e w' ⟨rfl,rfl⟩);go_loop [3,4] (λt k=>∃j:Int,1<=j/\j<=m/\k=J j/\t=J (Cal.Xo y-719162+Cal.Yt y j)) (λ_ k=>(m-intOf k).toNat)
 .exact⟨1,Q,Q,rfl,by rw[Cal.vdt];go_num⟩
 ·
  obtain⟨j,j1,j2,rfl,rfl⟩:=hrel;have cb:=Cal.vcG y j;have cs:=Cal.vbE y j j1 Q;have dj:=Cal.Yu y j;have CS:=hid cs;clear cs;by_cases hlt:j<m
  .go_wp2_with (go_at_call 156;refine(jbd _ _ _ y1 y2).mono ?_;rintro e w' ⟨rfl,rfl⟩)
   go_round
   .exact⟨j+1,Q,Q,rfl,by rw[CS.out];go_num⟩
   .simp[intOf];omega
  .have e:j=m:=Q
   subst e;go_wp2;go_ret;exact⟨Vh (by unfold num;omega),TK _ _⟩
section
theorem XD{x z:Int}(h:ZD x y z=true): -719162<=num x y z/\num x y z<=2932896:=by
 have ⟨a,b,c,d,e,f⟩:=jyc h;have h1:=Cal.vcH x a Q;have h2:=Cal.vcG x y;have h3:=Cal.vbE x y c d;have h4:=Cal.vds (y:=x) (a:=y+1) (b:=13) Q Q Q;have h5:=Cal.vdr x;have h6:=Cal.vdv x a;have h7:=Cal.vdu (a:=x+1) (b:=10000) Q Q;have h8:=Cal.vfg;unfold num;omega
end
section
abbrev S(l:List UInt8):ByteArray:=⟨l.toArray⟩
theorem veV(a b:List UInt8):S a++S b=S (a++b):=by
 apply ByteArray.ext;simp[S]
theorem jxy(l:List UInt8):(S l).size=l.length:=by simp[ByteArray.size]
theorem jf2{a b:Nat}(hb:b<=s.size)(hi:i<b-a):Ul (s.extract a b) i=Ul s (a+i):=by
 have h1:i<(s.extract a b).size:=by rw[ByteArray.size_extract];omega
 have h2:a+i<s.size:=Q;rw[<- Wj _ _ h1, <- Wj _ _ h2,ByteArray.getElem_extract]
theorem jf3{l:List UInt8}{c:UInt8}(h:l[i]? =some c):Ul (S l) i=(c.toNat:Int):=by
 have⟨hi,hc⟩:=Ux h;have h1:i<(S l).size:=by rw[jxy];exact hi
 rw[<- Wj _ _ h1];subst hc;rfl
theorem jxx{t:ByteArray}(hz:s.size=t.size)(h:∀i,i<s.size->Ul s i=Ul t i):s=t:=by
 apply ByteArray.ext_getElem hz;intro i h1 h2;have:=h i h1;rw[<- Wj _ _ h1, <- Wj _ _ h2]at this;apply UInt8.toNat_inj.mp;omega
