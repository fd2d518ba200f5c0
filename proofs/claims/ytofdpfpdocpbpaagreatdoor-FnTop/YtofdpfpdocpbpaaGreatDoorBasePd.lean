/- Packed. -/
import Derived.Test.YtofdpfpdocpbpaaGreatDoorProg
import Derived.WalkKit
import Derived.WalkSpells
import Derived.WalkLawsBesides
import Derived.Deep.QuietTactic
import Derived.BigQuiet
import Derived.Deep.RegionWith
import Derived.Lib.LaidTab
set_option maxHeartbeats 20000000
set_option linter.unusedSimpArgs false
namespace Go.Proofs.YtofdpfpdocpbpaaGreatDoor
open Go.RowKit
theorem hid{p:Prop}(h:p):Hid p:=h
theorem qtr{a b c:World}(h:Below a.heap.size a b)(k:Below b.heap.size b c):Below a.heap.size a c:=h.trans (k.mono h.size)
theorem qal(w:World)(o:Obj):Below w.heap.size w (w.alloc o):=(Below.refl _ _).alloc (Nat.le_refl _) o
theorem qbl{w:World}{a:Addr}{v:Value}(h:w.cell? a=some v):a.block<w.heap.size:=World.block_lt_of_cell? _ _ h
theorem qgg{α:Type}{l:List α}{i:Nat}(h:i<l.length):∃x,l[i]? =some x:=⟨_,List.getElem?_eq_getElem h⟩
theorem ret_bool{a b:Bool}(h:a=b):Ending.returned (.bool a)=.returned (.bool b):=by rw[h]
theorem ret_int{k:IntKind}{a b:Int}(h:a=b):Ending.returned (.int k a)=.returned (.int k b):=by rw[h]
theorem jgf(w:World)(o:Obj)(n:Nat):Below w.heap.size w ((w.alloc o).drewN n):=below_drewN (qal _ o) n
theorem jal{W w1:World}(hb:Below W.heap.size W w1):(∀b o,b<W.heap.size->w1.cell? ⟨b,o,none⟩=W.cell? ⟨b,o,none⟩)/\(∀b o,b<W.heap.size->w1.frozen? ⟨b,o,none⟩=W.frozen? ⟨b,o,none⟩):=
 ⟨fun b o h=>hb.cell (p:=⟨b,o,none⟩) h,fun b o h=>hb.frozen (p:=⟨b,o,none⟩) h⟩
theorem qfz{w v:World}(hb:Below w.heap.size w v){b o p:Nat}{u:Value}{x:Bool}(h:w.cell? ⟨b,o,none⟩=some u)(k:w.frozen? ⟨b,p,none⟩=x):v.frozen? ⟨b,p,none⟩=x:=((jal hb).2 _ _ (World.block_lt_of_cell? _ _ h)).trans k
theorem qce{w v:World}(hb:Below w.heap.size w v){b o:Nat}{u:Value}{x:Option Value}(h:w.cell? ⟨b,o,none⟩=some u)(k:w.cell? ⟨b,o,none⟩=x):v.cell? ⟨b,o,none⟩=x:=((jal hb).1 _ _ (World.block_lt_of_cell? _ _ h)).trans k
def isB(n lo hi:Int):Bool:=decide (lo<=n/\n<=hi)
theorem jnu{n lo hi:Int}(h1:lo<=n)(h2:n<=hi):isB n lo hi=true:=decide_eq_true ⟨h1,h2⟩
theorem jhl{n lo hi:Int}(h:¬(lo<=n/\n<=hi)):isB n lo hi=false:=decide_eq_false h
theorem jbw{n lo hi:Int}(h:isB n lo hi=true):lo<=n/\n<=hi:=of_decide_eq_true h
theorem j1m{n lo hi:Int}(h:isB n lo hi=false):¬(lo<=n/\n<=hi):=of_decide_eq_false h
end Go.Proofs.YtofdpfpdocpbpaaGreatDoor
namespace Go.Cal
def lp(y:Int):Int:=if y%4=0/\(y%100≠0\/y%400=0)then 1 else 0
def dim(y m:Int):Int:=
 if m=2 then 28+lp y else if m=4\/m=6\/m=9\/m=11 then 30 else 31
def dby(y:Int):Int:=365*(y-1)+(y-1) / 4-(y-1) / 100+(y-1) / 400
def cum(y m:Int):Int:=
 if m<=1 then 0 else if m=2 then 31 else
 (if m=3 then 59 else if m=4 then 90 else if m=5 then 120 else if m=6 then 151 else if m=7 then 181 else
 if m=8 then 212 else if m=9 then 243 else if m=10 then 273 else if m=11 then 304 else if m=12 then 334 else 365)+lp y
theorem lp_01(y:Int):0<=lp y/\lp y<=1:=by unfold lp;split<;>omega
theorem dim_bd(y m:Int):28<=dim y m/\dim y m<=31:=by
 have:=lp_01 y;unfold dim;split;omega;split<;>omega
theorem cum_one(y:Int):cum y 1=0:=by unfold cum;simp
theorem cum_succ(y m:Int)(h1:1<=m)(h2:m<=12):cum y (m+1)=cum y m+dim y m:=by
 have:=lp_01 y
 have hm:m=1\/m=2\/m=3\/m=4\/m=5\/m=6\/m=7\/m=8\/m=9\/m=10\/m=11\/m=12:=by omega
 rcases hm with h|h|h|h|h|h|h|h|h|h|h|h<;>subst h<;>simp[cum,dim]<;>omega
theorem cum_13(y:Int):cum y 13=365+lp y:=by simp[cum]
theorem cum_bd(y m:Int):0<=cum y m/\cum y m<=366:=by
 have:=lp_01 y
 unfold cum;repeat' split
 all_goals omega
theorem dby_succ(y:Int)(_h:1<=y):dby (y+1)=dby y+365+lp y:=by
 unfold dby lp
 split<;>omega
theorem dby_mono{a b:Int}(_h0:1<=a)(_h:a<=b):dby a<=dby b:=by unfold dby;omega
theorem dby_bd(y:Int)(h0:1<=y)(h:y<=10000):0<=dby y/\dby y<=3652059:=by unfold dby;omega
theorem dby_10000:dby 10000=3652059:=by unfold dby;omega
theorem cum_mono{y a b:Int}(h0:1<=a)(h:a<=b)(hb:b<=13):cum y a<=cum y b:=by
 obtain⟨n,rfl⟩:∃n:Nat,b=a+n:=⟨(b-a).toNat,by omega⟩
 induction n with
 |zero=>simp
 |succ k ih=>
  have h1:=ih (by omega) (by omega)
  have h2:=cum_succ y (a+k) (by omega) (by omega)
  have h3:=dim_bd y (a+k)
  have e:a+((k+1:Nat):Int)=a+k+1:=by omega
  rw[e];omega
theorem month_unique{y a b n:Int}(ha:1<=a)(ha2:a<=12)(hb:1<=b)(hb2:b<=12)(h1:cum y a<=n)(h2:n<cum y (a+1))(h3:cum y b<=n)(h4:n<cum y (b+1)):a=b:=by
 rcases Int.lt_trichotomy a b with h|h|h
 ·have:=cum_mono (y:=y) (a:=a+1) (b:=b) (by omega) (by omega) (by omega);omega
 ·exact h
 ·have:=cum_mono (y:=y) (a:=b+1) (b:=a) (by omega) (by omega) (by omega);omega
def yr(n:Int):Int:=
 let a:=n / 146097
 let r:=n%146097
 let b:=min (r / 36524) 3
 let r2:=r-b*36524
 let c:=r2 / 1461
 let r3:=r2%1461
 1+400*a+100*b+4*c+min (r3 / 365) 3
theorem yr_spec(n:Int)(h0:0<=n):1<=yr n/\dby (yr n)<=n/\n<dby (yr n+1):=by
 unfold yr dby
 simp only[]
 generalize ha:n / 146097=a
 generalize hr:n%146097=r
 generalize hb:min (r / 36524) 3=b
 generalize hc:(r-b*36524) / 1461=c
 generalize hr3:(r-b*36524)%1461=r3
 generalize hd:min (r3 / 365) 3=d
 have b1:0<=b/\b<=3:=by omega
 have c1:0<=c/\c<=24:=by omega
 have d1:0<=d/\d<=3:=by omega
 have e4:(1+400*a+100*b+4*c+d-1) / 4=100*a+25*b+c:=by omega
 have e100:(1+400*a+100*b+4*c+d-1) / 100=4*a+b:=by omega
 have e400:(1+400*a+100*b+4*c+d-1) / 400=a:=by omega
 have f4:(1+400*a+100*b+4*c+d+1-1) / 4=100*a+25*b+c+(d+1) / 4:=by omega
 have f100:(1+400*a+100*b+4*c+d+1-1) / 100=4*a+b+(4*c+d+1) / 100:=by omega
 have f400:(1+400*a+100*b+4*c+d+1-1) / 400=a+(100*b+4*c+d+1) / 400:=by omega
 rw[e4,e100,e400,f4,f100,f400]
 have hn:n=146097*a+r:=by omega
 have hr2:r-b*36524=1461*c+r3:=by omega
 refine⟨by omega,by omega,?_⟩
 have hd3:d<3\/d=3:=by omega
 have hc24:c<24\/c=24:=by omega
 have hb3:b<3\/b=3:=by omega
 rcases hd3 with h|h
 ·have g1:(d+1) / 4=0:=by omega
  have g2:(4*c+d+1) / 100=0:=by omega
  have g3:(100*b+4*c+d+1) / 400=0:=by omega
  have:r3<365*d+365:=by omega
  omega
 ·have g1:(d+1) / 4=1:=by omega
  rcases hc24 with h'|h'
  ·have g2:(4*c+d+1) / 100=0:=by omega
   have g3:(100*b+4*c+d+1) / 400=0:=by omega
   omega
  ·have g2:(4*c+d+1) / 100=1:=by omega
   rcases hb3 with h''|h''
   ·have g3:(100*b+4*c+d+1) / 400=0:=by omega
    omega
   ·have g3:(100*b+4*c+d+1) / 400=1:=by omega
    omega
theorem yr_hi(n:Int)(h0:0<=n)(h:n<=3652058):yr n<=9999:=by
 have ⟨h1,h2,_⟩:=yr_spec n h0
 rcases Int.lt_or_le (yr n) 10000 with h3|h3
 ·omega
 ·have:=dby_mono (a:=10000) (b:=yr n) (by omega) h3
  have:=dby_10000
  omega
def mon(y r:Int):Int:=
 if r<cum y 2 then 1 else if r<cum y 3 then 2 else if r<cum y 4 then 3 else if r<cum y 5 then 4 else if r<cum y 6 then 5 else
 if r<cum y 7 then 6 else if r<cum y 8 then 7 else if r<cum y 9 then 8 else if r<cum y 10 then 9 else if r<cum y 11 then 10 else
 if r<cum y 12 then 11 else 12
theorem mon_bd(y r:Int):1<=mon y r/\mon y r<=12:=by
 unfold mon;repeat' split
 all_goals omega
theorem mon_spec(y r:Int)(h0:0<=r)(h:r<365+lp y):cum y (mon y r)<=r/\r<cum y (mon y r+1):=by
 have h1:=cum_one y
 have h13:=cum_13 y
 unfold mon;repeat' split
 all_goals simp only[Int.reduceAdd]at *
 all_goals omega
end Go.Cal
namespace Go.Proofs.YtofdpfpdocpbpaaGreatDoor
section
open Go.RowKit
def lpB(y:Int):Bool:=decide (Cal.lp y=1)
theorem lpB_t{y:Int}(h:lpB y=true):Cal.lp y=1:=of_decide_eq_true h
theorem j8p{y:Int}(h:lpB y=false):Cal.lp y=0:=by
 have:=of_decide_eq_false h;have:=Cal.lp_01 y;omega
theorem jr0{y:Int}(h:y%4=0/\(y%100≠0\/y%400=0)):lpB y=true:=by
 unfold lpB Cal.lp;rw[if_pos h];rfl
theorem jr1{y:Int}(h:¬(y%4=0/\(y%100≠0\/y%400=0))):lpB y=false:=by
 unfold lpB Cal.lp;rw[if_neg h];rfl
theorem j5s{y:Int}(h4:y%4=0)(h100:y%100=0):(y%400==0)=lpB y:=by
 by_cases h:y%400=0
 ·rw[jr0 ⟨h4,.inr h⟩];simp[h]
 ·rw[jr1 (by omega)];simp[h]
theorem j5r{y:Int}(h4:y%4=0)(h100:¬y%100=0):true=lpB y:=(jr0 ⟨h4,.inl h100⟩).symm
theorem j5q{y:Int}(h4:¬y%4=0):false=lpB y:=(jr1 (by omega)).symm
theorem jji(y:Int)(w:World)(h1:1<=y)(h2:y<=9999):
  Calls Tryz.prog 240 #[.int .i64 y] w fun e w'=>e=.returned (.bool (lpB y))/\w'=w:=by
 go_enter Tryz.func240,Tryz.ntmps240
 go_wp2
 all_goals go_ret
 ·exact⟨ret_bool (j5s ‹_› ‹_›),rfl⟩
 ·exact⟨ret_bool (j5r ‹_› ‹_›),rfl⟩
 ·exact⟨ret_bool (j5q ‹_›),rfl⟩
def tabList:List Int:=[0,31,28,31,30,31,30,31,31,30,31,30,31]
def Tab(w:World):Prop:=∀i:Nat,i<13->w.cell? ⟨8,i,none⟩=some (.int .i64 (tabList.getD i 0))
theorem j43{y m:Int}(h1:1<=m)(h2:m<=12)(h:lpB y=false\/m≠2):tabList.getD m.toNat 0=Cal.dim y m:=by
 have hm:m=1\/m=2\/m=3\/m=4\/m=5\/m=6\/m=7\/m=8\/m=9\/m=10\/m=11\/m=12:=by omega
 rcases hm with e|e|e|e|e|e|e|e|e|e|e|e
 case inr.inl=>
  subst e
  have:=j8p (h.resolve_right (by simp))
  simp[tabList,Cal.dim,this]
 all_goals subst e;simp[tabList,Cal.dim]
theorem Tab.at{w:World}(h:Tab w){m:Int}(h1:1<=m)(h2:m<=12):w.cell? ⟨8,m.toNat,none⟩=some (.int .i64 (tabList.getD m.toNat 0)):=h _ (by omega)
theorem ja0(y m:Int)(w:World)(hT:Tab w)(h1:1<=y)(h2:y<=9999)(h3:1<=m)(h4:m<=12):
  Calls Tryz.prog 195 #[.int .i64 y,.int .i64 m] w fun e w'=>e=.returned (.int .i64 (Cal.dim y m))/\w'=w:=by
 have hc2:w.cell? ⟨8,2,none⟩=some (.int .i64 28):=hT 2 (by omega)
 by_cases hm:m=2
 ·subst hm
  clear hT
  cases hl:lpB y
  ·have e:Cal.dim y 2=28:=by have:=j8p hl;simp[Cal.dim,this]
   rw[e]
   go_enter Tryz.func195,Tryz.ntmps195
   go_wp2_with (go_at_call 240;refine(jji _ _ (by omega) (by omega)).mono ?_;rintro e w' ⟨rfl,rfl⟩)
   go_ret
   exact⟨rfl,rfl⟩
  ·have e:Cal.dim y 2=29:=by have:=lpB_t hl;simp[Cal.dim,this]
   rw[e]
   go_enter Tryz.func195,Tryz.ntmps195
   go_wp2_with (go_at_call 240;refine(jji _ _ (by omega) (by omega)).mono ?_;rintro e w' ⟨rfl,rfl⟩)
   go_ret
   exact⟨rfl,rfl⟩
 ·have hc:=hT.at h3 h4
  rw[j43 (y:=y) h3 h4 (.inr hm)]at hc
  have hb:(m==2)=false:=by simpa using hm
  clear hT hc2
  generalize Cal.dim y m=v at hc
  go_enter Tryz.func195,Tryz.ntmps195
  go_wp2
  go_ret
  exact⟨rfl,rfl⟩
def ymB(y m:Int):Bool:=decide (1<=y/\y<=9999/\1<=m/\m<=12)
theorem jpd{y m:Int}(h:ymB y m=true):1<=y/\y<=9999/\1<=m/\m<=12:=of_decide_eq_true h
theorem j7h{y m:Int}(h:ymB y m=false):y<1\/9999<y\/m<1\/12<m:=by have:=of_decide_eq_false h;omega
def jiu(y m:Int):Int:=if ymB y m=true then Cal.dim y m else 0
theorem jry{y m:Int}(h1:1<=y)(h2:y<=9999)(h3:1<=m)(h4:m<=12):jiu y m=Cal.dim y m:=by
 unfold jiu ymB;rw[if_pos (decide_eq_true ⟨h1,h2,h3,h4⟩)]
theorem jl2{y m:Int}(h:ymB y m=false):jiu y m=0:=by unfold jiu;rw[h];rfl
theorem j1a(y m:Int):0<=jiu y m/\jiu y m<=31:=by
 have:=Cal.dim_bd y m;unfold jiu;split<;>omega
theorem jg0(y m:Int)(w:World)(h:ymB y m=false):
  Calls Tryz.prog 195 #[.int .i64 y,.int .i64 m] w fun e w'=>e=.returned (.int .i64 0)/\w'=w:=by
 have h':=j7h h
 clear h
 by_cases c1:y<1
 ·go_enter Tryz.func195,Tryz.ntmps195
  go_wp2
  go_ret
  exact⟨rfl,rfl⟩
 by_cases c2:9999<y
 ·go_enter Tryz.func195,Tryz.ntmps195
  go_wp2
  go_ret
  exact⟨rfl,rfl⟩
 by_cases c3:m<1
 ·go_enter Tryz.func195,Tryz.ntmps195
  go_wp2
  go_ret
  exact⟨rfl,rfl⟩
 have c4:12<m:=by omega
 clear h'
 go_enter Tryz.func195,Tryz.ntmps195
 go_wp2
 go_ret
 exact⟨rfl,rfl⟩
theorem je9(y m:Int)(w:World)(hT:Tab w):
  Calls Tryz.prog 195 #[.int .i64 y,.int .i64 m] w fun e w'=>e=.returned (.int .i64 (jiu y m))/\w'=w:=by
 cases h:ymB y m
 ·rw[jl2 h];exact jg0 y m w h
 ·have ⟨a,b,c,d⟩:=jpd h
  rw[jry a b c d];exact ja0 y m w hT a b c d
theorem Tab.of_below{w w':World}(h:Tab w)(hb:Below w.heap.size w w'):Tab w':=fun i hi=>by
 rw[hb.cell (p:=⟨8,i,none⟩) (qbl (h i hi))];exact h i hi
theorem Tab.alloc{w:World}(h:Tab w)(o:Obj):Tab (w.alloc o):=h.of_below (qal _ o)
theorem Tab.drewN{w:World}(h:Tab w)(n:Nat):Tab (w.drewN n):=h
def vldB(y m d:Int):Bool:=decide (1<=y/\y<=9999/\1<=m/\m<=12/\1<=d/\d<=Cal.dim y m)
theorem jvg{y m d:Int}(h:vldB y m d=true):1<=y/\y<=9999/\1<=m/\m<=12/\1<=d/\d<=Cal.dim y m:=of_decide_eq_true h
theorem vld_f{y m d:Int}(h:vldB y m d=false):¬(1<=y/\y<=9999/\1<=m/\m<=12/\1<=d/\d<=Cal.dim y m):=of_decide_eq_false h
theorem jvi{y m d:Int}(h:1<=y/\y<=9999/\1<=m/\m<=12/\1<=d/\d<=Cal.dim y m):vldB y m d=true:=decide_eq_true h
theorem jvh{y m d:Int}(h:¬(1<=y/\y<=9999/\1<=m/\m<=12/\1<=d/\d<=Cal.dim y m)):vldB y m d=false:=decide_eq_false h
theorem jvj{y m d:Int}(h1:1<=d):vldB y m d=decide (d<=jiu y m):=by
 cases h:ymB y m
 ·rw[jl2 h]
  have:=j7h h
  rw[jvh (by omega)]
  symm;simp;omega
 ·have ⟨a,b,c,e⟩:=jpd h
  rw[jry a b c e]
  by_cases hd:d<=Cal.dim y m
  ·rw[jvi ⟨a,b,c,e,h1,hd⟩];simp[hd]
  ·rw[jvh (by omega)];simp[hd]
theorem jdl(y m d:Int)(w:World)(hT:Tab w):
  Calls Tryz.prog 259 #[.agg #[.int .i64 y,.int .i64 m,.int .i64 d]] w fun e w'=>e=.returned (.bool (vldB y m d))/\Below w.heap.size w w':=by
 by_cases h:1<=d
 ·rw[jvj h]
  have hM:∀o n,Calls Tryz.prog 195 #[.int .i64 y,.int .i64 m] ((w.alloc o).drewN n) fun e w'=>e=.returned (.int .i64 (jiu y m))/\w'=(w.alloc o).drewN n:=fun o n=>je9 y m _ ((hT.alloc o).drewN n)
  have bd:=j1a y m
  generalize jiu y m=v at *
  clear hT
  go_enter Tryz.func259,Tryz.ntmps259
  go_wp2_with fail
  go_quiet ((go_at_call 195;exact Calls.quiet_of_same (hM _ _)))
  go_wp2
  go_ret
  exact⟨rfl,jgf _ _ _⟩
 ·rw[jvh (by omega)]
  have hd:decide (1<=d)=false:=by simpa using h
  clear hT
  go_enter Tryz.func259,Tryz.ntmps259
  go_wp2_with fail
  go_quiet (fail)
  go_wp2
  go_ret
  exact⟨rfl,jgf _ _ _⟩
end
section
open Go.RowKit
def digB(c:Int):Bool:=decide (48<=c/\c<=57)
theorem j6u{c:Int}{b:Bool}(h:b=true↔(48<=c/\c<=57)):b=digB c:=by
 unfold digB;rw[Bool.eq_iff_iff];simpa using h
def jac(s:ByteArray)(k:Nat):Int:=if h:k<s.size then(s[k].toNat:Int)else 0
theorem jaf(s:ByteArray)(k:Nat)(h:k<s.size):(s[k].toNat:Int)=jac s k:=by unfold jac;rw[dif_pos h]
theorem jej(c:Int)(w:World):
  Calls Tryz.prog 47 #[.int .u8 c] w fun e w'=>e=.returned (.bool (digB c))/\w'=w:=by
 go_enter Tryz.func47,Tryz.ntmps47
 go_wp2
 all_goals go_ret
 all_goals exact⟨ret_bool (j6u (by simp;omega)),rfl⟩
theorem jzz{p:Nat->Prop}(h:p 0):Hid (∀j,j<1->p j):=fun j hj=>by
 obtain rfl:j=0:=by omega
 exact h
theorem upto_zero{p:Nat->Prop}:Hid (∀j,j<0->p j):=fun j hj=>by omega
theorem jfl{p:Nat->Prop}{k:Nat}(h:∀j,j<k->p j)(hk:p k):Hid (∀j,j<k+1->p j):=fun j hj=>by
 by_cases e:j=k
 ·subst e;exact hk
 ·exact h j (by omega)
theorem jzg(s:ByteArray)(k:Nat):0<=jac s k/\jac s k<=255:=by
 unfold jac;split
 ·rename_i h
  have:=s[k].toNat_lt
  omega
 ·omega
theorem j38{c:Int}(h:digB c=true):48<=c/\c<=57:=of_decide_eq_true h
def jey(s:ByteArray):Nat->Int
 |0=>0
 |k+1=>10*jey s k+(jac s k-48)
def digs(s:ByteArray):Bool:=decide (1<=s.size/\∀i,i<s.size->digB (jac s i)=true)
theorem j88{s:ByteArray}(h:digs s=true):1<=s.size/\∀i,i<s.size->digB (jac s i)=true:=of_decide_eq_true h
theorem jsn{s:ByteArray}(h:s.size=0):digs s=false:=decide_eq_false fun hn=>by omega
theorem j6t{s:ByteArray}{k:Nat}(hk:k<s.size)(h:digB (jac s k)=false):digs s=false:=decide_eq_false fun hn=>by rw[hn.2 k hk]at h;cases h
theorem j2n{s:ByteArray}(h1:1<=s.size)(h:∀i,i<s.size->digB (jac s i)=true):digs s=true:=decide_eq_true ⟨h1,h⟩
theorem j02{s:ByteArray}{k:Nat}(h:∀j,j<k->digB (jac s j)=true):0<=jey s k/\jey s k+1<=10 ^ k:=by
 induction k with
 |zero=>simp[jey]
 |succ k ih=>
  have ⟨a,b⟩:=ih (fun j hj=>h j (by omega))
  have ⟨c,d⟩:=j38 (h k (by omega))
  simp only[jey]
  have e:(10:Int) ^ (k+1)=10*10 ^ k:=by rw[Int.pow_succ];omega
  rw[e]
  omega
theorem jni{s:ByteArray}{k:Nat}(hk:k<=9)(h:∀j,j<k->digB (jac s j)=true):0<=jey s k/\jey s k<=999999999:=by
 have ⟨a,b⟩:=j02 h
 have e:(10:Int) ^ k<=10 ^ 9:=by
  have:=Nat.pow_le_pow_right (n:=10) (by omega) hk
  exact_mod_cast this
 omega
def drN(s:ByteArray):Int:=if digs s=true then jey s s.size else 0
theorem j86{s:ByteArray}(h:digs s=true):drN s=jey s s.size:=by unfold drN;rw[if_pos h]
theorem j87{s:ByteArray}(h:digs s=false):drN s=0:=by unfold drN;rw[h];rfl
theorem ret_pair{a b:Int}{c d:Bool}(h1:a=b)(h2:c=d):Ending.returned (.tuple #[.int .i64 a,.bool c])=.returned (.tuple #[.int .i64 b,.bool d]):=by rw[h1,h2]
theorem jap(s:ByteArray)(w:World)(hs:s.size<=9):
  Calls Tryz.prog 29 #[.string s] w fun e w'=>e=.returned (.tuple #[.int .i64 (drN s),.bool (digs s)])/\w'=w:=by
 by_cases h0:s.size=0
 ·have h:=jsn h0
  rw[j87 h,h]
  have hs0:s=⟨#[]⟩:=by
   apply ByteArray.ext
   have:s.data.size=0:=h0
   exact Array.eq_empty_of_size_eq_zero this
  subst hs0
  go_enter Tryz.func29,Tryz.ntmps29
  go_wp2
  go_ret2
  exact⟨rfl,rfl⟩
 ·have hne:s.toList.isEmpty=false:=by
   rw[ByteArray.toList_eq]
   cases hl:s.data.toList with
   |nil=>exact absurd (by have:=congrArg List.length hl;simpa using this) h0
   |cons _ _=>rfl
  go_enter Tryz.func29,Tryz.ntmps29
  go_wp2
  go_loop [4,5] (fun x i=>∃k:Nat,k<=s.size/\i=.int .i64 k/\x=.int .i64 (jey s k)/\Hid (∀j,j<k->digB (jac s j)=true)) (fun _ i=>s.size-(intOf i).toNat)
  case atStart=>exact⟨0,by omega,rfl,rfl,upto_zero⟩
  case round=>
   obtain⟨k,hk,rfl,rfl,hall⟩:=hrel
   by_cases hlt:k<s.size
   ·have hB:=fun w=>jej (jac s k) w
    have nb:=jni (s:=s) (k:=k) (by omega) hall.out
    have e:=jaf s k hlt
    cases hb:digB (jac s k)
    ·have HB:Hid (digs s=false):=j6t hlt hb
     rw[hb, <- e]at hB
     clear hb e
     go_wp2_with (go_at_call 47;refine(hB _).mono ?_;rintro e w' ⟨rfl,rfl⟩)
     go_ret2
     exact⟨ret_pair (j87 HB.out).symm HB.out.symm,rfl⟩
    ·have HB:=hid hb
     have ⟨b1,b2⟩:=j38 hb
     have HN:Hid (jey s (k+1)=10*jey s k+((s[k].toNat:Int)-48)):=by simp only[Hid,jey];rw[e]
     rw[hb, <- e]at hB
     rw[<- e]at b1 b2
     clear hb e
     go_wp2_with (go_at_call 47;refine(hB _).mono ?_;rintro e w' ⟨rfl,rfl⟩)
     go_round
     case rel=>exact⟨k+1,by omega,by go_num,by rw[HN.out];congr 1;omega,jfl hall.out HB.out⟩
     case measure=>simp[intOf];omega
   ·have e:k=s.size:=by omega
    subst e
    have HB:Hid (digs s=true):=j2n (by omega) hall.out
    go_wp2
    go_ret2
    exact⟨ret_pair (j86 HB.out).symm HB.out.symm,rfl⟩
def ldN(s:ByteArray):Int:=if digs s=true then jey s s.size else -1
theorem ldN_t{s:ByteArray}(h:digs s=true):ldN s=jey s s.size:=by unfold ldN;rw[if_pos h]
theorem ldN_f{s:ByteArray}(h:digs s=false):ldN s= -1:=by unfold ldN;rw[h];rfl
end
section
abbrev S(l:List UInt8):ByteArray:=⟨l.toArray⟩
theorem jid(a b:List UInt8):S a++S b=S (a++b):=by
 apply ByteArray.ext
 simp[S]
theorem j9j(c:UInt8)(b:List UInt8):({ data:=#[c] }:ByteArray)++S b=S (c::b):=jid [c] b
theorem S_size(l:List UInt8):(S l).size=l.length:=by simp[ByteArray.size]
theorem jc8{s:ByteArray}{a b i:Nat}(hb:b<=s.size)(hi:i<b-a):jac (s.extract a b) i=jac s (a+i):=by
 have h1:i<(s.extract a b).size:=by rw[ByteArray.size_extract];omega
 have h2:a+i<s.size:=by omega
 rw[<- jaf _ _ h1, <- jaf _ _ h2,ByteArray.getElem_extract]
theorem jge{l:List UInt8}{i:Nat}{c:UInt8}(h:l[i]? =some c):jac (S l) i=(c.toNat:Int):=by
 obtain⟨hi,hc⟩:=List.getElem?_eq_some_iff.mp h
 have h1:i<(S l).size:=by rw[S_size];exact hi
 rw[<- jaf _ _ h1]
 subst hc
 rfl
theorem jzf{s t:ByteArray}(hz:s.size=t.size)(h:∀i,i<s.size->jac s i=jac t i):s=t:=by
 apply ByteArray.ext_getElem hz
 intro i h1 h2
 have:=h i h1
 rw[<- jaf _ _ h1, <- jaf _ _ h2]at this
 apply UInt8.toNat_inj.mp
 omega
end
section
open Go.RowKit
def letB(c:Int):Bool:=decide (97<=c/\c<=122\/65<=c/\c<=90)
def nmB(c:Int):Bool:=letB c || digB c || c==95 || c==47 || c==43 || c==45
theorem j5y{c:Int}{b:Bool}(h:b=true↔(97<=c/\c<=122\/65<=c/\c<=90)):b=letB c:=by
 unfold letB;rw[Bool.eq_iff_iff];simpa using h
theorem jcx(c:Int)(w:World):
  Calls Tryz.prog 124 #[.int .u8 c] w fun e w'=>e=.returned (.bool (letB c))/\w'=w:=by
 go_enter Tryz.func124,Tryz.ntmps124
 go_wp2
 all_goals go_ret
 all_goals exact⟨ret_bool (j5y (by simp;omega)),rfl⟩
theorem j8c{c:Int}{b:Bool}(h:b=true↔(letB c=true\/digB c=true\/c=95\/c=47\/c=43\/c=45)):b=nmB c:=by
 unfold nmB;rw[Bool.eq_iff_iff,h];simp[or_assoc]
theorem jjh(c:Int)(w:World):
  Calls Tryz.prog 125 #[.int .u8 c] w fun e w'=>e=.returned (.bool (nmB c))/\w'=w:=by
 have hL:=fun w=>jcx c w
 have hD:=fun w=>jej c w
 cases hl:letB c
 ·cases hd:digB c
  ·have key:∀b:Bool,(b=true↔(c=95\/c=47\/c=43\/c=45))->b=nmB c:=fun b h=>j8c (by rw[hl,hd];simpa using h)
   rw[hl]at hL
   rw[hd]at hD
   have KEY:=hid key
   clear hl hd key
   go_enter Tryz.func125,Tryz.ntmps125
   go_wp2_with (first|(go_at_call 124;refine(hL _).mono ?_;rintro e w' ⟨rfl,rfl⟩)|(go_at_call 47;refine(hD _).mono ?_;rintro e w' ⟨rfl,rfl⟩))
   all_goals go_ret
   all_goals exact⟨ret_bool (KEY.out _ (by(try simp)<;>(try omega))),rfl⟩
  ·have key:nmB c=true:=by unfold nmB;rw[hd];simp
   rw[key]
   rw[hl]at hL
   rw[hd]at hD
   clear hl hd key
   go_enter Tryz.func125,Tryz.ntmps125
   go_wp2_with (first|(go_at_call 124;refine(hL _).mono ?_;rintro e w' ⟨rfl,rfl⟩)|(go_at_call 47;refine(hD _).mono ?_;rintro e w' ⟨rfl,rfl⟩))
   go_ret
   exact⟨rfl,rfl⟩
 ·have key:nmB c=true:=by unfold nmB;rw[hl];simp
  rw[key]
  rw[hl]at hL
  clear hl key
  go_enter Tryz.func125,Tryz.ntmps125
  go_wp2_with (first|(go_at_call 124;refine(hL _).mono ?_;rintro e w' ⟨rfl,rfl⟩)|(go_at_call 47;refine(hD _).mono ?_;rintro e w' ⟨rfl,rfl⟩))
  go_ret
  exact⟨rfl,rfl⟩
def jbs(s:ByteArray):Bool:=decide (1<=s.size/\s.size<=20/\letB (jac s 0)=true/\∀i,i<s.size->nmB (jac s i)=true)
theorem jl1{s:ByteArray}(h:jbs s=true):1<=s.size/\s.size<=20/\letB (jac s 0)=true/\∀i,i<s.size->nmB (jac s i)=true:=of_decide_eq_true h
theorem jru{s:ByteArray}(h:¬(1<=s.size/\s.size<=20)):jbs s=false:=decide_eq_false fun hn=>h ⟨hn.1,hn.2.1⟩
theorem j07{s:ByteArray}(h:letB (jac s 0)=false):jbs s=false:=decide_eq_false fun hn=>by rw[hn.2.2.1]at h;cases h
theorem j06{s:ByteArray}{k:Nat}(hk:k<s.size)(h:nmB (jac s k)=false):jbs s=false:=decide_eq_false fun hn=>by rw[hn.2.2.2 k hk]at h;cases h
theorem j05{s:ByteArray}(h1:1<=s.size)(h2:s.size<=20)(h3:letB (jac s 0)=true)(h4:∀i,i<s.size->nmB (jac s i)=true):jbs s=true:=decide_eq_true ⟨h1,h2,h3,h4⟩
theorem jw4{c:Int}(h:letB c=true):nmB c=true:=by unfold nmB;rw[h];simp
theorem jau(s:ByteArray)(w:World)(hs:s.size<=maxLen):
  Calls Tryz.prog 80 #[.string s] w fun e w'=>e=.returned (.bool (jbs s))/\w'=w:=by
 unfold maxLen at hs
 by_cases h1:s.size<1
 ·rw[jru (by omega)]
  go_enter Tryz.func80,Tryz.ntmps80
  go_wp2
  go_ret
  exact⟨rfl,rfl⟩
 by_cases h2:20<s.size
 ·rw[jru (by omega)]
  go_enter Tryz.func80,Tryz.ntmps80
  go_wp2
  go_ret
  exact⟨rfl,rfl⟩
 have hb0:0<s.size:=by omega
 have hL:=fun w=>jcx (jac s 0) w
 rw[<- jaf s 0 hb0]at hL
 cases hl:letB (jac s 0)
 ·rw[j07 hl]
  rw[jaf s 0 hb0,hl, <- jaf s 0 hb0]at hL
  clear hl
  go_enter Tryz.func80,Tryz.ntmps80
  go_wp2_with (go_at_call 124;refine(hL _).mono ?_;rintro e w' ⟨rfl,rfl⟩)
  go_ret
  exact⟨rfl,rfl⟩
 ·rw [jaf s 0 hb0,hl, <- jaf s 0 hb0]at hL
  have hN:=jw4 hl
  have HL:=hid hl
  have HN:=hid hN
  clear hl hN
  go_enter Tryz.func80,Tryz.ntmps80
  go_wp2_with (go_at_call 124;refine(hL _).mono ?_;rintro e w' ⟨rfl,rfl⟩)
  go_loop [3] (fun i=>∃k:Nat,1<=k/\k<=s.size/\i=.int .i64 k/\Hid (∀j,j<k->nmB (jac s j)=true)) (fun i=>s.size-(intOf i).toNat)
  case atStart=>exact⟨1,by omega,by omega,rfl,jzz HN.out⟩
  case round=>
   obtain⟨k,k1,k2,rfl,hall⟩:=hrel
   by_cases hlt:k<s.size
   ·have hB:=fun w=>jjh (jac s k) w
    cases hb:nmB (jac s k)
    ·have HB:=hid hb
     rw[hb, <- jaf s k hlt]at hB
     clear hb
     go_wp2_with (go_at_call 125;refine(hB _).mono ?_;rintro e w' ⟨rfl,rfl⟩)
     go_ret
     exact⟨ret_bool (j06 hlt HB.out).symm,rfl⟩
    ·have HB:=hid hb
     rw[hb, <- jaf s k hlt]at hB
     clear hb
     go_wp2_with (go_at_call 125;refine(hB _).mono ?_;rintro e w' ⟨rfl,rfl⟩)
     go_round
     case rel=>exact⟨k+1,by omega,by omega,by go_num,jfl hall.out HB.out⟩
     case measure=>simp[intOf];omega
   ·go_wp2
    go_ret
    exact⟨ret_bool (j05 (by omega) (by omega) HL.out (fun i hi=>hall.out i (by omega))).symm,rfl⟩
end
section
open Go.RowKit
def wdv(n:Int):Int:=if isB n (-719162) 2932896=true then(n+719163)%7 else -1
theorem ju6{n:Int}(h1: -719162<=n)(h2:n<=2932896):wdv n=(n+719163)%7:=by unfold wdv;rw[if_pos (jnu h1 h2)]
theorem j3k{n:Int}(h:¬(-719162<=n/\n<=2932896)):wdv n= -1:=by unfold wdv;rw[jhl h];rfl
theorem jhh(n:Int)(w:World):
  Calls Tryz.prog 273 #[.int .i64 n] w fun e w'=>e=.returned (.int .i64 (wdv n))/\w'=w:=by
 by_cases h1:n< -719162
 ·rw[j3k (by omega)]
  go_enter Tryz.func273,Tryz.ntmps273
  go_wp2
  go_ret
  exact⟨rfl,rfl⟩
 by_cases h2:2932896<n
 ·rw[j3k (by omega)]
  go_enter Tryz.func273,Tryz.ntmps273
  go_wp2
  go_ret
  exact⟨rfl,rfl⟩
 ·rw[ju6 (by omega) (by omega)]
  go_enter Tryz.func273,Tryz.ntmps273
  go_wp2
  go_ret
  exact⟨ret_int (by omega),rfl⟩
end
section
open Go.RowKit
theorem jsd(y:Int)(w:World)(h1:1<=y)(h2:y<=10001):
  Calls Tryz.prog 232 #[.int .i64 y] w fun e w'=>e=.returned (.int .i64 (Cal.dby y))/\w'=w:=by
 unfold Cal.dby
 go_enter Tryz.func232,Tryz.ntmps232
 go_wp2
 go_ret
 exact⟨ret_int (by omega),rfl⟩
theorem jkc(n:Int)(w:World)(h1:0<=n)(h2:n<=3652058):
  Calls Tryz.prog 231 #[.int .i64 n] w fun e w'=>e=.returned (.int .i64 (Cal.yr n))/\w'=w:=by
 unfold Cal.yr
 go_enter Tryz.func231,Tryz.ntmps231
 go_wp2
 all_goals go_ret
 all_goals exact⟨ret_int (by omega),rfl⟩
def num(y m d:Int):Int:=Cal.dby y-719162+Cal.cum y m+d-1
theorem jdk(y m d:Int)(w:World)(hT:Tab w)(hv:vldB y m d=true):
  Calls Tryz.prog 224 #[.agg #[.int .i64 y,.int .i64 m,.int .i64 d]] w fun e w'=>e=.returned (.int .i64 (num y m d))/\Below w.heap.size w w':=by
 have ⟨y1,y2,m1,m2,d1,d2⟩:=jvg hv
 have hR:=fun w (h:Tab w)=>jdl y m d w h
 rw[hv]at hR
 have db:=Cal.dby_bd y y1 (by omega)
 have dm:=Cal.dim_bd y m
 clear hv
 go_enter Tryz.func224,Tryz.ntmps224
 go_wp2_with fail
 refine(hR _ (hT.alloc _)).mono ?_
 rintro e w1 ⟨rfl,hb⟩
 obtain⟨hc,hf⟩:=jal hb
 have hz:w.heap.size+1<=w1.heap.size:=by have:=hb.size;simpa using this
 have hT1:Tab w1:=(hT.alloc _).of_below hb
 have hB:Below w.heap.size w w1:=(qal _ _).trans (hb.mono (by simp))
 clear hR hb hT
 go_wp2_with (go_at_call 232;refine(jsd _ _ y1 (by omega)).mono ?_;rintro e w' ⟨rfl,rfl⟩)
 go_loop [3,4] (fun t k=>∃j:Int,1<=j/\j<=m/\k=.int .i64 j/\t=.int .i64 (Cal.dby y-719162+Cal.cum y j)) (fun _ k=>(m-intOf k).toNat)
 case atStart=>exact⟨1,by omega,by omega,rfl,by rw[Cal.cum_one];go_num⟩
 case round=>
  obtain⟨j,j1,j2,rfl,rfl⟩:=hrel
  have cb:=Cal.cum_bd y j
  have cs:=Cal.cum_succ y j j1 (by omega)
  have dj:=Cal.dim_bd y j
  have CS:=hid cs
  clear cs
  by_cases hlt:j<m
  ·go_wp2_with (go_at_call 195;refine(ja0 _ _ _ hT1 y1 y2 j1 (by omega)).mono ?_;rintro e w' ⟨rfl,rfl⟩)
   go_round
   case rel=>exact⟨j+1,by omega,by omega,rfl,by rw[CS.out];go_num⟩
   case measure=>simp[intOf];omega
  ·have e:j=m:=by omega
   subst e
   go_wp2
   go_ret
   exact⟨ret_int (by unfold num;omega),hB⟩
end
section
open Go.RowKit
def yOf(n:Int):Int:=Cal.yr (n+719162)
def mOf(n:Int):Int:=Cal.mon (yOf n) (n+719162-Cal.dby (yOf n))
def dOf(n:Int):Int:=n+719162-Cal.dby (yOf n)-Cal.cum (yOf n) (mOf n)+1
theorem ju4{n:Int}(h1: -719162<=n)(h2:n<=2932896):1<=yOf n/\yOf n<=9999/\Cal.dby (yOf n)<=n+719162/\n+719162<Cal.dby (yOf n+1):=by
 have ⟨a,b,c⟩:=Cal.yr_spec (n+719162) (by omega)
 exact⟨a,Cal.yr_hi _ (by omega) (by omega),b,c⟩
theorem jwn{n:Int}(h1: -719162<=n)(h2:n<=2932896):0<=n+719162-Cal.dby (yOf n)/\n+719162-Cal.dby (yOf n)<365+Cal.lp (yOf n):=by
 have ⟨a,b,c,d⟩:=ju4 h1 h2
 have:=Cal.dby_succ (yOf n) a
 omega
theorem j8k{n:Int}(h1: -719162<=n)(h2:n<=2932896):1<=mOf n/\mOf n<=12/\Cal.cum (yOf n) (mOf n)<=n+719162-Cal.dby (yOf n)/\n+719162-Cal.dby (yOf n)<Cal.cum (yOf n) (mOf n+1):=by
 have ⟨a,b⟩:=jwn h1 h2
 have ⟨c,d⟩:=Cal.mon_bd (yOf n) (n+719162-Cal.dby (yOf n))
 have ⟨e,f⟩:=Cal.mon_spec (yOf n) (n+719162-Cal.dby (yOf n)) a b
 exact⟨c,d,e,f⟩
theorem j7m{n:Int}(h1: -719162<=n)(h2:n<=2932896):vldB (yOf n) (mOf n) (dOf n)=true:=by
 have ⟨a,b,_,_⟩:=ju4 h1 h2
 have ⟨c,d,e,f⟩:=j8k h1 h2
 have:=Cal.cum_succ (yOf n) (mOf n) c d
 exact jvi ⟨a,b,c,d,by unfold dOf;omega,by unfold dOf;omega⟩
theorem j5m{y r j:Int}(j1:1<=j)(j2:j<=12)(h0:0<=r)(h1:r<365+Cal.lp y)(h2:Cal.cum y j<=r)(h3:r-Cal.cum y j<Cal.dim y j):Cal.mon y r=j:=by
 have ⟨c,d⟩:=Cal.mon_bd y r
 have ⟨e,f⟩:=Cal.mon_spec y r h0 h1
 have:=Cal.cum_succ y j j1 j2
 exact Cal.month_unique c d j1 j2 e f h2 (by omega)
theorem j8g{y r j:Int}(j1:1<=j)(j2:j<=12)(h1:r<365+Cal.lp y)(h3:Cal.dim y j<=r-Cal.cum y j):j<12:=by
 have:=Cal.cum_succ y j j1 j2
 rcases Int.lt_or_le j 12 with h|h
 ·exact h
 ·have e:j=12:=by omega
  subst e
  have:=Cal.cum_13 y
  simp only[Int.reduceAdd]at *
  omega
theorem jku(n:Int)(w:World)(hT:Tab w)(h1: -719162<=n)(h2:n<=2932896):
  Calls Tryz.prog 185 #[.int .i64 n] w fun e w'=>e=.returned (.agg #[.int .i64 (yOf n),.int .i64 (mOf n),.int .i64 (dOf n)])/\Below w.heap.size w w':=by
 have ⟨y1,y2,y3,y4⟩:=ju4 h1 h2
 have ⟨r1,r2⟩:=jwn h1 h2
 have hY:=fun w=>jkc (n+719162) w (by omega) (by omega)
 have em:Hid (mOf n=Cal.mon (yOf n) (n+719162-Cal.dby (yOf n))):=rfl
 have ed:Hid (dOf n=n+719162-Cal.dby (yOf n)-Cal.cum (yOf n) (mOf n)+1):=rfl
 have ey:Cal.yr (n+719162)=yOf n:=rfl
 rw[ey]at hY
 clear ey
 have db:=Cal.dby_bd (yOf n) y1 (by omega)
 have hT1:=fun o=>hT.alloc o
 clear hT
 generalize yOf n=y at *
 generalize mOf n=mm at *
 generalize dOf n=dd at *
 go_enter Tryz.func185,Tryz.ntmps185
 go_wp2_with (first|(go_at_call 231;refine(hY _).mono ?_;rintro e w' ⟨rfl,rfl⟩)|(go_at_call 232;refine(jsd _ _ y1 (by omega)).mono ?_;rintro e w' ⟨rfl,rfl⟩))
 go_loop [4,5] (fun t k=>∃j:Int,1<=j/\j<=12/\Cal.cum y j<=n+719162-Cal.dby y/\k=.int .i64 j/\t=.int .i64 (n+719162-Cal.dby y-Cal.cum y j)) (fun _ k=>(12-intOf k).toNat)
 case atStart=>exact⟨1,by omega,by omega,by rw[Cal.cum_one];omega,rfl,by rw[Cal.cum_one];go_num⟩
 case round=>
  obtain⟨j,j1,j2,j3,rfl,rfl⟩:=hrel
  have cb:=Cal.cum_bd y j
  have CS:Hid (Cal.cum y (j+1)=Cal.cum y j+Cal.dim y j):=Cal.cum_succ y j j1 (by omega)
  have dj:=Cal.dim_bd y j
  by_cases hlt:Cal.dim y j<=n+719162-Cal.dby y-Cal.cum y j
  ·have j4:=j8g j1 j2 r2 hlt
   go_wp2_with (go_at_call 195;refine(ja0 _ _ _ (hT1 _) y1 y2 j1 (by omega)).mono ?_;rintro e w' ⟨rfl,rfl⟩)
   go_round
   case rel=>exact⟨j+1,by omega,by omega,by rw[CS.out];omega,rfl,by rw[CS.out];go_num⟩
   case measure=>simp[intOf];omega
  ·have e1:Cal.mon y (n+719162-Cal.dby y)=j:=j5m j1 j2 r1 r2 j3 (by omega)
   have e2:mm=j:=by rw[em.out,e1]
   have e3:dd=n+719162-Cal.dby y-Cal.cum y j+1:=by rw[ed.out,e2]
   clear e1 em ed
   subst e2 e3
   go_wp2_with (go_at_call 195;refine(ja0 _ _ _ (hT1 _) y1 y2 j1 (by omega)).mono ?_;rintro e w' ⟨rfl,rfl⟩)
   exact bodyPost_ret (v:=.agg #[.int .i64 y,.int .i64 mm,.int .i64 (n+719162-Cal.dby y-Cal.cum y mm+1)]) (by simp[results,Tryz.results185,go_sem]) rfl ⟨rfl,qal _ _⟩
end
section
theorem jk8{x y z:Int}(h:vldB x y z=true): -719162<=num x y z/\num x y z<=2932896:=by
 have ⟨a,b,c,d,e,f⟩:=jvg h
 have h1:=Cal.dby_bd x a (by omega)
 have h2:=Cal.cum_bd x y
 have h3:=Cal.cum_succ x y c d
 have h4:=Cal.cum_mono (y:=x) (a:=y+1) (b:=13) (by omega) (by omega) (by omega)
 have h5:=Cal.cum_13 x
 have h6:=Cal.dby_succ x a
 have h7:=Cal.dby_mono (a:=x+1) (b:=10000) (by omega) (by omega)
 have h8:=Cal.dby_10000
 unfold num
 omega
end
end Go.Proofs.YtofdpfpdocpbpaaGreatDoor
