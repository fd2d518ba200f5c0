import Derived.Test.YtpejeokacilebaaGreatDoorProg
import Derived.WalkSpells
import Derived.WalkLawsBesides
import Derived.BigQuiet
import Derived.Deep.RegionWith
import Derived.Lib.LaidTab
set_option maxHeartbeats 0
set_option linter.unusedSimpArgs false
open Go.RowKit
namespace Go.Proofs.YtpejeokacilebaaGreatDoor
open Go.RowKit
abbrev Bw(a b:World):Prop:=Below a.heap.size a b
theorem wco(w:World)(a b:Addr)(v:Value)(h:a≠b):(w.setCell a v).cell? b=w.cell? b:=World.cell?_setCell_other w a b v h
theorem wcs(w:World)(a:Addr)(v:Value){u:Value}(h:w.cell? a=some u):(w.setCell a v).cell? a=some v:=World.cell?_setCell_same w a v h
theorem woa{w:World}{b:Nat}{e:TypeId}{z:Nat}{v:Value}{n:Nat}{l:List Value}(h:w.ownsRow b e z v n l)(o:Obj):(w.alloc o).ownsRow b e z v n l:=World.ownsRow.alloc h o
theorem lgg{α:Type}{l:List α}{i:Nat}(h:i<l.length):l[i]? =some l[i]:=List.getElem?_eq_getElem h
theorem lgs{α:Type}{l:List α}{i:Nat}{a:α}(h:l[i]? =some a):∃h:i<l.length,l[i]=a:=List.getElem?_eq_some_iff.mp h
theorem lgm{α β:Type}{f:α→β}{l:List α}{i:Nat}:(l.map f)[i]? =l[i]?.map f:=List.getElem?_map
theorem lmg{α:Type}{l:List α}{i:Nat}{a:α}(h:l[i]? =some a):a∈l:=List.mem_of_getElem? h
theorem osi{α:Type}{a b:α}(h:some a=some b):a=b:=Option.some.inj h
theorem nlr(n:Nat):n≤n:=Nat.le_refl n
theorem dfe{p:Prop}[Decidable p](h:¬p):decide p=false:=decide_eq_false h
theorem dte{p:Prop}[Decidable p](h:p):decide p=true:=decide_eq_true h
theorem odt{p:Prop}[Decidable p](h:decide p=true):p:=of_decide_eq_true h
theorem bat(a b:Bool):((a&&b)=true)=(a=true∧b=true):=Bool.and_eq_true a b
theorem llm{α β:Type}{l:List α}(f:α→β):(l.map f).length=l.length:=List.length_map f
theorem lma{α β:Type}{f:α→β}{a b:List α}:(a++b).map f=a.map f++b.map f:=List.map_append
theorem lla{α:Type}{a b:List α}:(a++b).length=a.length+b.length:=List.length_append
theorem lmc{α:Type}(y:α){a:α}{l:List α}(h:a∈l):a∈y::l:=List.mem_cons_of_mem y h
theorem lgo{α:Type}{a:α}{l:List α}(h:a∈l):∃i:Nat,l[i]? =some a:=List.getElem?_of_mem h
theorem lgl{α:Type}{a b:List α}{i:Nat}(h:i<a.length):(a++b)[i]? =a[i]? :=List.getElem?_append_left h
theorem brf(n:Nat)(w:World):Below n w w:=Below.refl n w
theorem bpr{P:Program}{fn:Func}{R:Ending→World→Prop}{a:Act}{w:World}{v:Value}(h:(results fn a.tmps).run P w=.ok v w)(k:a.defers=[])(r:R (.returned v) w):bodyPost P fn R .ret a w:=bodyPost_ret h k r
theorem qea{α:Type}(a:α):∃x,x=a:=⟨_,rfl⟩
theorem qeb{α:Type}(a:α):∃x,a=x:=⟨_,rfl⟩
abbrev iv(n:Int):Value:=.int .i64 n
abbrev ad(b o:Nat):Addr:=⟨b,o,none⟩
abbrev so(g n c:Nat):Value:=.slice (some ⟨g,0,none⟩) n c
abbrev nS:Value:=.slice none 0 0
abbrev Cl(f:Nat)(a:Array Value)(w:World)(Q:Ending→World→Prop):Prop:=Calls Tryz.prog f a w Q
theorem hid{p:Prop}(h:p):Hid p:=h
theorem qtr{a b c:World}(h:Bw a b)(k:Bw b c):Bw a c:=h.trans (k.mono h.size)
theorem qal(w:World)(o:Obj):Bw w (w.alloc o):=(brf _ _).alloc (nlr _) o
theorem qbl{w:World}{a:Addr}{v:Value}(h:w.cell? a=some v):a.block<w.heap.size:=World.block_lt_of_cell? _ _ h
theorem qgg{α:Type}{l:List α}{i:Nat}(h:i<l.length):∃x,l[i]? =some x:=⟨_,lgg h⟩
theorem ret_bool{a b:Bool}(h:a=b):Ending.returned (.bool a)=.returned (.bool b):=by rw[h]
theorem ret_int{k:IntKind}{a b:Int}(h:a=b):Ending.returned (.int k a)=.returned (.int k b):=by rw[h]
theorem jle(w:World)(o:Obj)(n:Nat):Bw w ((w.alloc o).drewN n):=below_drewN (qal _ o) n
theorem jaf{W w1:World}(hb:Bw W w1):(∀b o,b<W.heap.size->w1.cell? (ad b o)=W.cell? (ad b o))/\(∀b o,b<W.heap.size->w1.frozen? (ad b o)=W.frozen? (ad b o)):=
 ⟨fun b o h=>hb.cell (p:=(ad b o)) h,fun b o h=>hb.frozen (p:=(ad b o)) h⟩
theorem qfz{w v:World}(hb:Bw w v){b o p:Nat}{u:Value}{x:Bool}(h:w.cell? (ad b o)=some u)(k:w.frozen? (ad b p)=x):v.frozen? (ad b p)=x:=((jaf hb).2 _ _ (World.block_lt_of_cell? _ _ h)).trans k
theorem qce{w v:World}(hb:Bw w v){b o:Nat}{u:Value}{x:Option Value}(h:w.cell? (ad b o)=some u)(k:w.cell? (ad b o)=x):v.cell? (ad b o)=x:=((jaf hb).1 _ _ (World.block_lt_of_cell? _ _ h)).trans k
theorem jnb(n lo hi:Int)(w:World)(h1:lo<=n)(h2:n<=hi):
  Cl 13 #[iv n,iv lo,iv hi] w fun e w'=>e=.returned (.bool true)/\w'=w:=by
 unfold Cl;go_in
 go_wp2
 go_ret
 exact⟨ret_bool (by simp),rfl⟩
theorem jnc(n lo hi:Int)(w:World)(h:n<lo\/hi<n):
  Cl 13 #[iv n,iv lo,iv hi] w fun e w'=>e=.returned (.bool false)/\w'=w:=by
 by_cases h1:lo<=n
 ·have h2:hi<n:=by omega
  clear h
  unfold Cl;go_in
  go_wp2
  go_ret
  exact⟨ret_bool (by simp;omega),rfl⟩
 ·clear h
  unfold Cl;go_in
  go_wp2
  go_ret
  exact⟨ret_bool (by simp),rfl⟩
def isB(n lo hi:Int):Bool:=decide (lo<=n/\n<=hi)
theorem jma{n lo hi:Int}(h1:lo<=n)(h2:n<=hi):isB n lo hi=true:=dte ⟨h1,h2⟩
theorem jj8{n lo hi:Int}(h:¬(lo<=n/\n<=hi)):isB n lo hi=false:=dfe h
theorem jax{n lo hi:Int}(h:isB n lo hi=true):lo<=n/\n<=hi:=odt h
theorem jzo{n lo hi:Int}(h:isB n lo hi=false):¬(lo<=n/\n<=hi):=of_decide_eq_false h
theorem jau(n lo hi:Int)(w:World):
  Cl 13 #[iv n,iv lo,iv hi] w fun e w'=>e=.returned (.bool (isB n lo hi))/\w'=w:=by
 cases h:isB n lo hi
 ·exact jnc n lo hi w (by have:=jzo h;omega)
 ·exact jnb n lo hi w (jax h).1 (jax h).2
end Go.Proofs.YtpejeokacilebaaGreatDoor
namespace Go.Cal
def lp(y:Int):Int:=if y%4=0/\(y%100≠0\/y%400=0)then 1 else 0
def dim(y m:Int):Int:=
 if m=2 then 28+lp y else if m=4\/m=6\/m=9\/m=11 then 30 else 31
def dby(y:Int):Int:=365*(y-1)+(y-1) / 4-(y-1) / 100+(y-1) / 400
def cum(y m:Int):Int:=
 if m<=1 then 0 else if m=2 then 31 else
 (if m=3 then 59 else if m=4 then 90 else if m=5 then 120 else if m=6 then 151 else if m=7 then 181 else
 if m=8 then 212 else if m=9 then 243 else if m=10 then 273 else if m=11 then 304 else if m=12 then 334 else 365)+lp y
theorem lp_01(y:Int):0<=lp y/\lp y<=1:=by unfold lp;split<;>omega
theorem dim_bd(y m:Int):28<=dim y m/\dim y m<=31:=by
 have:=lp_01 y;unfold dim;split;omega;split<;>omega
theorem cum_one(y:Int):cum y 1=0:=by unfold cum;simp
theorem cum_succ(y m:Int)(h1:1<=m)(h2:m<=12):cum y (m+1)=cum y m+dim y m:=by
 have:=lp_01 y
 have hm:m=1\/m=2\/m=3\/m=4\/m=5\/m=6\/m=7\/m=8\/m=9\/m=10\/m=11\/m=12:=by omega
 rcases hm with h|h|h|h|h|h|h|h|h|h|h|h<;>subst h<;>simp[cum,dim]<;>omega
theorem cum_13(y:Int):cum y 13=365+lp y:=by simp[cum]
theorem cum_bd(y m:Int):0<=cum y m/\cum y m<=366:=by
 have:=lp_01 y
 unfold cum;repeat' split
 all_goals omega
theorem dby_succ(y:Int)(_h:1<=y):dby (y+1)=dby y+365+lp y:=by
 unfold dby lp
 split<;>omega
theorem dby_mono{a b:Int}(_h0:1<=a)(_h:a<=b):dby a<=dby b:=by unfold dby;omega
theorem dby_bd(y:Int)(h0:1<=y)(h:y<=10000):0<=dby y/\dby y<=3652059:=by unfold dby;omega
theorem dby_10000:dby 10000=3652059:=by unfold dby;omega
theorem cum_mono{y a b:Int}(h0:1<=a)(h:a<=b)(hb:b<=13):cum y a<=cum y b:=by
 obtain⟨n,rfl⟩:∃n:Nat,b=a+n:=⟨(b-a).toNat,by omega⟩
 induction n with
 |zero=>simp
 |succ k ih=>
  have h1:=ih (by omega) (by omega)
  have h2:=cum_succ y (a+k) (by omega) (by omega)
  have h3:=dim_bd y (a+k)
  have e:a+((k+1:Nat):Int)=a+k+1:=by omega
  rw[e];omega
end Go.Cal
namespace Go.Proofs.YtpejeokacilebaaGreatDoor
def lpB(y:Int):Bool:=decide (Cal.lp y=1)
theorem j3k{y:Int}(h:lpB y=true):Cal.lp y=1:=odt h
theorem j19{y:Int}(h:lpB y=false):Cal.lp y=0:=by
 have:=of_decide_eq_false h;have:=Cal.lp_01 y;omega
theorem jrv{y:Int}(h:y%4=0/\(y%100≠0\/y%400=0)):lpB y=true:=by
 unfold lpB Cal.lp;rw[if_pos h];rfl
theorem jrw{y:Int}(h:¬(y%4=0/\(y%100≠0\/y%400=0))):lpB y=false:=by
 unfold lpB Cal.lp;rw[if_neg h];rfl
theorem jwd{y:Int}(h4:y%4=0)(tM:y%100=0):(y%400==0)=lpB y:=by
 by_cases h:y%400=0
 ·rw[jrv ⟨h4,.inr h⟩];simp[h]
 ·rw[jrw (by omega)];simp[h]
theorem jwc{y:Int}(h4:y%4=0)(tM:¬y%100=0):true=lpB y:=(jrv ⟨h4,.inl tM⟩).symm
theorem jwb{y:Int}(h4:¬y%4=0):false=lpB y:=(jrw (by omega)).symm
theorem jja(y:Int)(w:World)(h1:1<=y)(h2:y<=9999):
  Cl 214 #[iv y] w fun e w'=>e=.returned (.bool (lpB y))/\w'=w:=by
 unfold Cl;go_in
 go_wp2
 all_goals go_ret
 ·exact⟨ret_bool (jwd ‹_› ‹_›),rfl⟩
 ·exact⟨ret_bool (jwc ‹_› ‹_›),rfl⟩
 ·exact⟨ret_bool (jwb ‹_›),rfl⟩
theorem jgu(y:Int)(w:World)(h1:1<=y)(h2:y<=9999):
  Cl 155 #[iv y] w fun e w'=>e=.returned (.bool (lpB y))/\w'=w:=by
 unfold Cl;go_in
 go_wp2
 all_goals go_ret
 ·exact⟨ret_bool (jwd ‹_› ‹_›),rfl⟩
 ·exact⟨ret_bool (jwc ‹_› ‹_›),rfl⟩
 ·exact⟨ret_bool (jwb ‹_›),rfl⟩
def tabList:List Int:=[0,31,28,31,30,31,30,31,31,30,31,30,31]
def Tab(w:World):Prop:=∀i:Nat,i<13->w.cell? (ad (0) i)=some (iv (tabList.getD i 0))
theorem j1p{y m:Int}(h1:1<=m)(h2:m<=12)(h:lpB y=false\/m≠2):tabList.getD m.toNat 0=Cal.dim y m:=by
 have hm:m=1\/m=2\/m=3\/m=4\/m=5\/m=6\/m=7\/m=8\/m=9\/m=10\/m=11\/m=12:=by omega
 rcases hm with e|e|e|e|e|e|e|e|e|e|e|e
 case inr.inl=>
  subst e
  have:=j19 (h.resolve_right (by simp))
  simp[tabList,Cal.dim,this]
 all_goals subst e;simp[tabList,Cal.dim]
theorem Tab.at{w:World}(h:Tab w){m:Int}(h1:1<=m)(h2:m<=12):w.cell? (ad (0) m.toNat)=some (iv (tabList.getD m.toNat 0)):=h _ (by omega)
theorem jbs(y m:Int)(w:World)(hT:Tab w)(h1:1<=y)(h2:y<=9999)(h3:1<=m)(h4:m<=12):
  Cl 186 #[iv y,iv m] w fun e w'=>e=.returned (iv (Cal.dim y m))/\w'=w:=by
 have cU:w.cell? (ad (0) 2)=some (iv 28):=hT 2 (by omega)
 by_cases hm:m=2
 ·subst hm
  clear hT
  cases hl:lpB y
  ·have e:Cal.dim y 2=28:=by have:=j19 hl;simp[Cal.dim,this]
   rw[e]
   unfold Cl;go_in
   go_wp2_with (go_at_call 214;refine(jja _ _ (by omega) (by omega)).mono ?_;rintro e w' ⟨rfl,rfl⟩)
   go_ret
   exact⟨rfl,rfl⟩
  ·have e:Cal.dim y 2=29:=by have:=j3k hl;simp[Cal.dim,this]
   rw[e]
   unfold Cl;go_in
   go_wp2_with (go_at_call 214;refine(jja _ _ (by omega) (by omega)).mono ?_;rintro e w' ⟨rfl,rfl⟩)
   go_ret
   exact⟨rfl,rfl⟩
 ·have hc:=hT.at h3 h4
  rw[j1p (y:=y) h3 h4 (.inr hm)]at hc
  have hb:(m==2)=false:=by simpa using hm
  clear hT cU
  generalize Cal.dim y m=v at hc
  unfold Cl;go_in
  go_wp2
  go_ret
  exact⟨rfl,rfl⟩
def ymB(y m:Int):Bool:=decide (1<=y/\y<=9999/\1<=m/\m<=12)
theorem jfi{y m:Int}(h:ymB y m=true):1<=y/\y<=9999/\1<=m/\m<=12:=odt h
theorem j2x{y m:Int}(h:ymB y m=false):y<1\/9999<y\/m<1\/12<m:=by have:=of_decide_eq_false h;omega
def jio(y m:Int):Int:=if ymB y m=true then Cal.dim y m else 0
theorem jrs{y m:Int}(h1:1<=y)(h2:y<=9999)(h3:1<=m)(h4:m<=12):jio y m=Cal.dim y m:=by
 unfold jio ymB;rw[if_pos (dte ⟨h1,h2,h3,h4⟩)]
theorem jl4{y m:Int}(h:ymB y m=false):jio y m=0:=by unfold jio;rw[h];rfl
theorem jzi(y m:Int):0<=jio y m/\jio y m<=31:=by
 have:=Cal.dim_bd y m;unfold jio;split<;>omega
theorem jgi(y m:Int)(w:World)(h:ymB y m=false):
  Cl 186 #[iv y,iv m] w fun e w'=>e=.returned (iv 0)/\w'=w:=by
 have h':=j2x h
 clear h
 by_cases c1:y<1
 ·unfold Cl;go_in
  go_wp2
  go_ret
  exact⟨rfl,rfl⟩
 by_cases c2:9999<y
 ·unfold Cl;go_in
  go_wp2
  go_ret
  exact⟨rfl,rfl⟩
 by_cases c3:m<1
 ·unfold Cl;go_in
  go_wp2
  go_ret
  exact⟨rfl,rfl⟩
 have c4:12<m:=by omega
 clear h'
 unfold Cl;go_in
 go_wp2
 go_ret
 exact⟨rfl,rfl⟩
theorem je4(y m:Int)(w:World)(hT:Tab w):
  Cl 186 #[iv y,iv m] w fun e w'=>e=.returned (iv (jio y m))/\w'=w:=by
 cases h:ymB y m
 ·rw[jl4 h];exact jgi y m w h
 ·have ⟨a,b,c,d⟩:=jfi h
  rw[jrs a b c d];exact jbs y m w hT a b c d
theorem jbd(y m:Int)(w:World)(h1:1<=y)(h2:y<=9999):
  Cl 120 #[iv y,iv m] w fun e w'=>e=.returned (iv (Cal.dim y m))/\w'=w:=by
 by_cases hm:m=2
 ·subst hm
  cases hl:lpB y
  ·have e:Cal.dim y 2=28:=by have:=j19 hl;simp[Cal.dim,this]
   rw[e]
   unfold Cl;go_in
   go_wp2_with (go_at_call 155;refine(jgu _ _ (by omega) (by omega)).mono ?_;rintro e w' ⟨rfl,rfl⟩)
   go_ret
   exact⟨rfl,rfl⟩
  ·have e:Cal.dim y 2=29:=by have:=j3k hl;simp[Cal.dim,this]
   rw[e]
   unfold Cl;go_in
   go_wp2_with (go_at_call 155;refine(jgu _ _ (by omega) (by omega)).mono ?_;rintro e w' ⟨rfl,rfl⟩)
   go_ret
   exact⟨rfl,rfl⟩
 ·have hb:(m==2)=false:=by simpa using hm
  by_cases lm:m=4\/m=6\/m=9\/m=11
  ·have e:Cal.dim y m=30:=by unfold Cal.dim;rw[if_neg hm,if_pos lm]
   rw[e]
   rcases lm with h|h|h|h<;>subst h<;>clear hm hb e
   all_goals
    unfold Cl;go_in
    go_wp2
    go_ret
    exact⟨rfl,rfl⟩
  ·have e:Cal.dim y m=31:=by unfold Cal.dim;rw[if_neg hm,if_neg lm]
   rw[e]
   have b4:(m==4)=false:=by simp;omega
   have b6:(m==6)=false:=by simp;omega
   have b9:(m==9)=false:=by simp;omega
   have NK:(m==11)=false:=by simp;omega
   clear e lm hm
   unfold Cl;go_in
   go_wp2
   go_ret
   exact⟨rfl,rfl⟩
theorem Tab.of_below{w w':World}(h:Tab w)(hb:Bw w w'):Tab w':=fun i hi=>by
 rw[hb.cell (p:=(ad (0) i)) (qbl (h i hi))];exact h i hi
theorem Tab.alloc{w:World}(h:Tab w)(o:Obj):Tab (w.alloc o):=h.of_below (qal _ o)
theorem Tab.drewN{w:World}(h:Tab w)(n:Nat):Tab (w.drewN n):=h
theorem jna(y:Int)(w:World):
  Cl 61 #[iv y] w fun e w'=>e=.returned (.bool (isB y 1 9999))/\w'=w:=by
 unfold Cl;go_in
 go_wp2_with (go_at_call 13;refine(jau _ _ _ _).mono ?_;rintro e w' ⟨rfl,rfl⟩)
 go_ret
 exact⟨rfl,rfl⟩
def vldB(y m d:Int):Bool:=decide (1<=y/\y<=9999/\1<=m/\m<=12/\1<=d/\d<=Cal.dim y m)
theorem jyc{y m d:Int}(h:vldB y m d=true):1<=y/\y<=9999/\1<=m/\m<=12/\1<=d/\d<=Cal.dim y m:=odt h
theorem vld_f{y m d:Int}(h:vldB y m d=false):¬(1<=y/\y<=9999/\1<=m/\m<=12/\1<=d/\d<=Cal.dim y m):=of_decide_eq_false h
theorem jfj{y m d:Int}(h:1<=y/\y<=9999/\1<=m/\m<=12/\1<=d/\d<=Cal.dim y m):vldB y m d=true:=dte h
theorem jul{y m d:Int}(h:¬(1<=y/\y<=9999/\1<=m/\m<=12/\1<=d/\d<=Cal.dim y m)):vldB y m d=false:=dfe h
theorem jum{y m d:Int}(h1:1<=d):vldB y m d=decide (d<=jio y m):=by
 cases h:ymB y m
 ·rw[jl4 h]
  have:=j2x h
  rw[jul (by omega)]
  symm;simp;omega
 ·have ⟨a,b,c,e⟩:=jfi h
  rw[jrs a b c e]
  by_cases hd:d<=Cal.dim y m
  ·rw[jfj ⟨a,b,c,e,h1,hd⟩];simp[hd]
  ·rw[jul (by omega)];simp[hd]
theorem je6(y m d:Int)(w:World)(hT:Tab w):
  Cl 238 #[.agg #[iv y,iv m,iv d]] w fun e w'=>e=.returned (.bool (vldB y m d))/\Bw w w':=by
 by_cases h:1<=d
 ·rw[jum h]
  have hM:∀o n,Cl 186 #[iv y,iv m] ((w.alloc o).drewN n) fun e w'=>e=.returned (iv (jio y m))/\w'=(w.alloc o).drewN n:=fun o n=>je4 y m _ ((hT.alloc o).drewN n)
  have bd:=jzi y m
  generalize jio y m=v at *
  clear hT
  unfold Cl;go_in
  go_wp2_with fail
  go_quiet ((go_at_call 186;exact Calls.quiet_of_same (hM _ _)))
  go_wp2
  go_ret
  exact⟨rfl,jle _ _ _⟩
 ·rw[jul (by omega)]
  have hd:decide (1<=d)=false:=by simpa using h
  clear hT
  unfold Cl;go_in
  go_wp2_with fail
  go_quiet (fail)
  go_wp2
  go_ret
  exact⟨rfl,jle _ _ _⟩
def digB(c:Int):Bool:=decide (48<=c/\c<=57)
theorem jxn{c:Int}{b:Bool}(h:b=true↔(48<=c/\c<=57)):b=digB c:=by
 unfold digB;rw[Bool.eq_iff_iff];simpa using h
def jae(s:ByteArray)(k:Nat):Int:=if h:k<s.size then(s[k].toNat:Int)else 0
theorem jai(s:ByteArray)(k:Nat)(h:k<s.size):(s[k].toNat:Int)=jae s k:=by unfold jae;rw[dif_pos h]
theorem jd8(c:Int)(w:World):
  Cl 168 #[.int .u8 c] w fun e w'=>e=.returned (.bool (digB c))/\w'=w:=by
 unfold Cl;go_in
 go_wp2
 all_goals go_ret
 all_goals exact⟨ret_bool (jxn (by simp;omega)),rfl⟩
theorem jdi(c:Int)(w:World):
  Cl 68 #[.int .u8 c] w fun e w'=>e=.returned (.bool (digB c))/\w'=w:=by
 unfold Cl;go_in
 go_wp2
 all_goals go_ret
 all_goals exact⟨ret_bool (jxn (by simp;omega)),rfl⟩
theorem jye{p:Nat->Prop}(h:p 0):Hid (∀j,j<1->p j):=fun j hj=>by
 obtain rfl:j=0:=by omega
 exact h
theorem upto_zero{p:Nat->Prop}:Hid (∀j,j<0->p j):=fun j hj=>by omega
theorem jbi{p:Nat->Prop}{k:Nat}(h:∀j,j<k->p j)(hk:p k):Hid (∀j,j<k+1->p j):=fun j hj=>by
 by_cases e:j=k
 ·subst e;exact hk
 ·exact h j (by omega)
theorem jxm{c:Int}(h:digB c=true):48<=c/\c<=57:=odt h
def jda(s:ByteArray):Nat->Int
 |0=>0
 |k+1=>10*jda s k+(jae s k-48)
def digs(s:ByteArray):Bool:=decide (1<=s.size/\∀i,i<s.size->digB (jae s i)=true)
theorem j3v{s:ByteArray}(h:digs s=true):1<=s.size/\∀i,i<s.size->digB (jae s i)=true:=odt h
theorem jmm{s:ByteArray}(h:s.size=0):digs s=false:=dfe fun hn=>by omega
theorem jxl{s:ByteArray}{k:Nat}(hk:k<s.size)(h:digB (jae s k)=false):digs s=false:=dfe fun hn=>by rw[hn.2 k hk]at h;cases h
theorem jsg{s:ByteArray}(h1:1<=s.size)(h:∀i,i<s.size->digB (jae s i)=true):digs s=true:=dte ⟨h1,h⟩
theorem jzc{s:ByteArray}{k:Nat}(h:∀j,j<k->digB (jae s j)=true):0<=jda s k/\jda s k+1<=10 ^ k:=by
 induction k with
 |zero=>simp[jda]
 |succ k ih=>
  have ⟨a,b⟩:=ih (fun j hj=>h j (by omega))
  have ⟨c,d⟩:=jxm (h k (by omega))
  simp only[jda]
  have e:(10:Int) ^ (k+1)=10*10 ^ k:=by rw[Int.pow_succ];omega
  rw[e]
  omega
theorem jih{s:ByteArray}{k:Nat}(hk:k<=9)(h:∀j,j<k->digB (jae s j)=true):0<=jda s k/\jda s k<=999999999:=by
 have ⟨a,b⟩:=jzc h
 have e:(10:Int) ^ k<=10 ^ 9:=by
  have:=Nat.pow_le_pow_right (n:=10) (by omega) hk
  exact_mod_cast this
 omega
def drN(s:ByteArray):Int:=if digs s=true then jda s s.size else 0
theorem j3t{s:ByteArray}(h:digs s=true):drN s=jda s s.size:=by unfold drN;rw[if_pos h]
theorem j3u{s:ByteArray}(h:digs s=false):drN s=0:=by unfold drN;rw[h];rfl
theorem ret_pair{a b:Int}{c d:Bool}(h1:a=b)(h2:c=d):Ending.returned (.tuple #[iv a,.bool c])=.returned (.tuple #[iv b,.bool d]):=by rw[h1,h2]
theorem jje(s:ByteArray)(w:World)(hs:s.size<=9):
  Cl 237 #[.string s] w fun e w'=>e=.returned (.tuple #[iv (drN s),.bool (digs s)])/\w'=w:=by
 by_cases h0:s.size=0
 ·have h:=jmm h0
  rw[j3u h,h]
  have dP:s=⟨#[]⟩:=by
   apply ByteArray.ext
   have:s.data.size=0:=h0
   exact Array.eq_empty_of_size_eq_zero this
  subst dP
  unfold Cl;go_in
  go_wp2
  go_ret2
  exact⟨rfl,rfl⟩
 ·have az:s.toList.isEmpty=false:=by
   rw[ByteArray.toList_eq]
   cases hl:s.data.toList with
   |nil=>exact absurd (by have:=congrArg List.length hl;simpa using this) h0
   |cons _ _=>rfl
  unfold Cl;go_in
  go_wp2
  go_loop [4,5] (fun x i=>∃k:Nat,k<=s.size/\i=iv k/\x=iv (jda s k)/\Hid (∀j,j<k->digB (jae s j)=true)) (fun _ i=>s.size-(intOf i).toNat)
  case atStart=>exact⟨0,by omega,rfl,rfl,upto_zero⟩
  case round=>
   obtain⟨k,hk,rfl,rfl,ak⟩:=hrel
   by_cases hlt:k<s.size
   ·have hB:=fun w=>jd8 (jae s k) w
    have nb:=jih (s:=s) (k:=k) (by omega) ak.out
    have e:=jai s k hlt
    cases hb:digB (jae s k)
    ·have HB:Hid (digs s=false):=jxl hlt hb
     rw[hb, <- e]at hB
     clear hb e
     go_wp2_with (go_at_call 168;refine(hB _).mono ?_;rintro e w' ⟨rfl,rfl⟩)
     go_ret2
     exact⟨ret_pair (j3u HB.out).symm HB.out.symm,rfl⟩
    ·have HB:=hid hb
     have ⟨b1,b2⟩:=jxm hb
     have HN:Hid (jda s (k+1)=10*jda s k+((s[k].toNat:Int)-48)):=by simp only[Hid,jda];rw[e]
     rw[hb, <- e]at hB
     rw[<- e]at b1 b2
     clear hb e
     go_wp2_with (go_at_call 168;refine(hB _).mono ?_;rintro e w' ⟨rfl,rfl⟩)
     go_round
     case rel=>exact⟨k+1,by omega,by go_num,by rw[HN.out];congr 1;omega,jbi ak.out HB.out⟩
     case measure=>simp[intOf];omega
   ·have e:k=s.size:=by omega
    subst e
    have HB:Hid (digs s=true):=jsg (by omega) ak.out
    go_wp2
    go_ret2
    exact⟨ret_pair (j3t HB.out).symm HB.out.symm,rfl⟩
def ldN(s:ByteArray):Int:=if digs s=true then jda s s.size else -1
theorem j2a{s:ByteArray}(h:digs s=true):ldN s=jda s s.size:=by unfold ldN;rw[if_pos h]
theorem jzn{s:ByteArray}(h:digs s=false):ldN s= -1:=by unfold ldN;rw[h];rfl
def letB(c:Int):Bool:=decide (97<=c/\c<=122\/65<=c/\c<=90)
def nmB(c:Int):Bool:=letB c || digB c || c==95 || c==47 || c==43 || c==45
theorem jwg{c:Int}{b:Bool}(h:b=true↔(97<=c/\c<=122\/65<=c/\c<=90)):b=letB c:=by
 unfold letB;rw[Bool.eq_iff_iff];simpa using h
theorem jcq(c:Int)(w:World):
  Cl 146 #[.int .u8 c] w fun e w'=>e=.returned (.bool (letB c))/\w'=w:=by
 unfold Cl;go_in
 go_wp2
 all_goals go_ret
 all_goals exact⟨ret_bool (jwg (by simp;omega)),rfl⟩
theorem jcd(c:Int)(w:World):
  Cl 67 #[.int .u8 c] w fun e w'=>e=.returned (.bool (letB c))/\w'=w:=by
 unfold Cl;go_in
 go_wp2
 all_goals go_ret
 all_goals exact⟨ret_bool (jwg (by simp;omega)),rfl⟩
theorem j3e{c:Int}{b:Bool}(h:b=true↔(letB c=true\/digB c=true\/c=95\/c=47\/c=43\/c=45)):b=nmB c:=by
 unfold nmB;rw[Bool.eq_iff_iff,h];simp[or_assoc]
theorem ji9(c:Int)(w:World):
  Cl 147 #[.int .u8 c] w fun e w'=>e=.returned (.bool (nmB c))/\w'=w:=by
 have hL:=fun w=>jcq c w
 have hD:=fun w=>jd8 c w
 cases hl:letB c
 ·cases hd:digB c
  ·have key:∀b:Bool,(b=true↔(c=95\/c=47\/c=43\/c=45))->b=nmB c:=fun b h=>j3e (by rw[hl,hd];simpa using h)
   rw[hl]at hL
   rw[hd]at hD
   have In:=hid key
   clear hl hd key
   unfold Cl;go_in
   go_wp2_with (first|(go_at_call 146;refine(hL _).mono ?_;rintro e w' ⟨rfl,rfl⟩)|(go_at_call 168;refine(hD _).mono ?_;rintro e w' ⟨rfl,rfl⟩))
   all_goals go_ret
   all_goals exact⟨ret_bool (In.out _ (by(try simp)<;>(try omega))),rfl⟩
  ·have key:nmB c=true:=by unfold nmB;rw[hd];simp
   rw[key]
   rw[hl]at hL
   rw[hd]at hD
   clear hl hd key
   unfold Cl;go_in
   go_wp2_with (first|(go_at_call 146;refine(hL _).mono ?_;rintro e w' ⟨rfl,rfl⟩)|(go_at_call 168;refine(hD _).mono ?_;rintro e w' ⟨rfl,rfl⟩))
   go_ret
   exact⟨rfl,rfl⟩
 ·have key:nmB c=true:=by unfold nmB;rw[hl];simp
  rw[key]
  rw[hl]at hL
  clear hl key
  unfold Cl;go_in
  go_wp2_with (first|(go_at_call 146;refine(hL _).mono ?_;rintro e w' ⟨rfl,rfl⟩)|(go_at_call 168;refine(hD _).mono ?_;rintro e w' ⟨rfl,rfl⟩))
  go_ret
  exact⟨rfl,rfl⟩
def jaz(s:ByteArray):Bool:=decide (1<=s.size/\s.size<=20/\letB (jae s 0)=true/\∀i,i<s.size->nmB (jae s i)=true)
theorem jf8{s:ByteArray}(h:jaz s=true):1<=s.size/\s.size<=20/\letB (jae s 0)=true/\∀i,i<s.size->nmB (jae s i)=true:=odt h
theorem jhq{s:ByteArray}(h:¬(1<=s.size/\s.size<=20)):jaz s=false:=dfe fun hn=>h ⟨hn.1,hn.2.1⟩
theorem jro{s:ByteArray}(h:letB (jae s 0)=false):jaz s=false:=dfe fun hn=>by rw[hn.2.2.1]at h;cases h
theorem jrn{s:ByteArray}{k:Nat}(hk:k<s.size)(h:nmB (jae s k)=false):jaz s=false:=dfe fun hn=>by rw[hn.2.2.2 k hk]at h;cases h
theorem jrm{s:ByteArray}(h1:1<=s.size)(h2:s.size<=20)(h3:letB (jae s 0)=true)(h4:∀i,i<s.size->nmB (jae s i)=true):jaz s=true:=dte ⟨h1,h2,h3,h4⟩
theorem jnm{c:Int}(h:letB c=true):nmB c=true:=by unfold nmB;rw[h];simp
theorem jv0{c:Int}:(nmB c=true)↔(letB c=true\/digB c=true\/c=95\/c=47\/c=43\/c=45):=by
 unfold nmB;simp[or_assoc]
theorem ja7(s:ByteArray)(w:World)(hs:s.size<=maxLen):
  Cl 105 #[.string s] w fun e w'=>e=.returned (.bool (jaz s))/\w'=w:=by
 unfold maxLen at hs
 by_cases h1:s.size<1
 ·rw[jhq (by omega)]
  unfold Cl;go_in
  go_wp2
  go_ret
  exact⟨rfl,rfl⟩
 by_cases h2:20<s.size
 ·rw[jhq (by omega)]
  unfold Cl;go_in
  go_wp2
  go_ret
  exact⟨rfl,rfl⟩
 have bg:0<s.size:=by omega
 have hL:=fun w=>jcq (jae s 0) w
 rw[<- jai s 0 bg]at hL
 cases hl:letB (jae s 0)
 ·rw[jro hl]
  rw[jai s 0 bg,hl, <- jai s 0 bg]at hL
  clear hl
  unfold Cl;go_in
  go_wp2_with (go_at_call 146;refine(hL _).mono ?_;rintro e w' ⟨rfl,rfl⟩)
  go_ret
  exact⟨rfl,rfl⟩
 ·rw [jai s 0 bg,hl, <- jai s 0 bg]at hL
  have hN:=jnm hl
  have HL:=hid hl
  have HN:=hid hN
  clear hl hN
  unfold Cl;go_in
  go_wp2_with (go_at_call 146;refine(hL _).mono ?_;rintro e w' ⟨rfl,rfl⟩)
  go_loop [3] (fun i=>∃k:Nat,1<=k/\k<=s.size/\i=iv k/\Hid (∀j,j<k->nmB (jae s j)=true)) (fun i=>s.size-(intOf i).toNat)
  case atStart=>exact⟨1,by omega,by omega,rfl,jye HN.out⟩
  case round=>
   obtain⟨k,k1,k2,rfl,ak⟩:=hrel
   by_cases hlt:k<s.size
   ·have hB:=fun w=>ji9 (jae s k) w
    cases hb:nmB (jae s k)
    ·have HB:=hid hb
     rw[hb, <- jai s k hlt]at hB
     clear hb
     go_wp2_with (go_at_call 147;refine(hB _).mono ?_;rintro e w' ⟨rfl,rfl⟩)
     go_ret
     exact⟨ret_bool (jrn hlt HB.out).symm,rfl⟩
    ·have HB:=hid hb
     rw[hb, <- jai s k hlt]at hB
     clear hb
     go_wp2_with (go_at_call 147;refine(hB _).mono ?_;rintro e w' ⟨rfl,rfl⟩)
     go_round
     case rel=>exact⟨k+1,by omega,by omega,by go_num,jbi ak.out HB.out⟩
     case measure=>simp[intOf];omega
   ·go_wp2
    go_ret
    exact⟨ret_bool (jrm (by omega) (by omega) HL.out (fun i hi=>ak.out i (by omega))).symm,rfl⟩
theorem jbu (s:ByteArray) (w:World) (hs:s.size<=maxLen):
  Cl 32 #[.string s] w fun e w'=>e=.returned (.bool (jaz s))/\w'=w:=by
 unfold maxLen at hs
 by_cases h1:s.size<1
 ·rw[jhq (by omega)]
  unfold Cl;go_in
  go_wp2
  go_ret
  exact⟨rfl,rfl⟩
 by_cases h2:20<s.size
 ·rw[jhq (by omega)]
  unfold Cl;go_in
  go_wp2
  go_ret
  exact⟨rfl,rfl⟩
 have bg:0<s.size:=by omega
 have hL:=fun w=>jcd (jae s 0) w
 rw[<- jai s 0 bg]at hL
 cases hl:letB (jae s 0)
 ·rw[jro hl]
  rw[jai s 0 bg,hl, <- jai s 0 bg]at hL
  clear hl
  unfold Cl;go_in
  go_wp2_with (go_at_call 67;refine(hL _).mono ?_;rintro e w' ⟨rfl,rfl⟩)
  go_ret
  exact⟨rfl,rfl⟩
 ·rw[jai s 0 bg,hl, <- jai s 0 bg]at hL
  have HL:=hid hl
  clear hl
  unfold Cl;go_in
  go_wp2_with (go_at_call 67;refine(hL _).mono ?_;rintro e w' ⟨rfl,rfl⟩)
  clear hL
  go_loop [3] (fun i=>∃k:Nat,k<=s.size/\i=iv k/\Hid (∀j,j<k->nmB (jae s j)=true)) (fun i=>s.size-(intOf i).toNat)
  case atStart=>exact⟨0,by omega,rfl,upto_zero⟩
  case round=>
   obtain⟨k,k2,rfl,ak⟩:=hrel
   by_cases hlt:k<s.size
   ·have hN:Hid (nmB (jae s k)=false->jaz s=false):=fun h=>jrn hlt h
    have hC:Hid (nmB (jae s k)=true↔_):=jv0
    have hB:=fun w=>jcd (jae s k) w
    have hD:=fun w=>jdi (jae s k) w
    have e:=jai s k hlt
    cases hl:letB (jae s k)
    ·cases hd:digB (jae s k)
     ·rw[hl, <- e]at hB
      rw[hd, <- e]at hD
      rw[hl,hd]at hC
      by_cases ho:jae s k=95\/jae s k=47\/jae s k=43\/jae s k=45
      ·have HB:Hid (nmB (jae s k)=true):=hC.out.2 (by simpa using ho)
       rw[<- e]at ho
       clear hl hd e hC hN
       rcases ho with ho|ho|ho|ho
       all_goals
        rw[ho]at hB hD
        go_wp2_with (first|(go_at_call 67;refine(hB _).mono ?_;rintro e w' ⟨rfl,rfl⟩)|(go_at_call 68;refine(hD _).mono ?_;rintro e w' ⟨rfl,rfl⟩))
        go_round
        case rel=>exact⟨k+1,by omega,by go_num,jbi ak.out HB.out⟩
        case measure=>simp[intOf];omega
      ·have HB:Hid (nmB (jae s k)=false):=by
        cases h:nmB (jae s k)
        ·rfl
        ·exact absurd (hC.out.1 h) (by simpa using ho)
       rw[<- e]at ho
       have o1:((s[k].toNat:Int) != 95)=true:=by simp;omega
       have o2:((s[k].toNat:Int) != 47)=true:=by simp;omega
       have o3:((s[k].toNat:Int) != 43)=true:=by simp;omega
       have o4:((s[k].toNat:Int) != 45)=true:=by simp;omega
       clear hl hd e hC ho
       go_wp2_with (first|(go_at_call 67;refine(hB _).mono ?_;rintro e w' ⟨rfl,rfl⟩)|(go_at_call 68;refine(hD _).mono ?_;rintro e w' ⟨rfl,rfl⟩))
       go_ret
       exact⟨ret_bool (hN.out HB.out).symm,rfl⟩
     ·have HB:Hid (nmB (jae s k)=true):=by unfold nmB;rw[hd];simp[Hid]
      rw[hl, <- e]at hB
      rw[hd, <- e]at hD
      clear hl hd e hC hN
      go_wp2_with (first|(go_at_call 67;refine(hB _).mono ?_;rintro e w' ⟨rfl,rfl⟩)|(go_at_call 68;refine(hD _).mono ?_;rintro e w' ⟨rfl,rfl⟩))
      go_round
      case rel=>exact⟨k+1,by omega,by go_num,jbi ak.out HB.out⟩
      case measure=>simp[intOf];omega
    ·have HB:Hid (nmB (jae s k)=true):=jnm hl
     rw[hl, <- e]at hB
     clear hl e hC hN
     go_wp2_with (first|(go_at_call 67;refine(hB _).mono ?_;rintro e w' ⟨rfl,rfl⟩)|(go_at_call 68;refine(hD _).mono ?_;rintro e w' ⟨rfl,rfl⟩))
     go_round
     case rel=>exact⟨k+1,by omega,by go_num,jbi ak.out HB.out⟩
     case measure=>simp[intOf];omega
   ·go_wp2
    go_ret
    exact⟨ret_bool (jrm (by omega) (by omega) HL.out (fun i hi=>ak.out i (by omega))).symm,rfl⟩
def wdv(n:Int):Int:=if isB n (-719162) 2932896=true then(n+719163)%7 else -1
theorem jug{n:Int}(h1: -719162<=n)(h2:n<=2932896):wdv n=(n+719163)%7:=by unfold wdv;rw[if_pos (jma h1 h2)]
theorem j0t{n:Int}(h:¬(-719162<=n/\n<=2932896)):wdv n= -1:=by unfold wdv;rw[jj8 h];rfl
theorem jg3(n:Int)(w:World):
  Cl 240 #[iv n] w fun e w'=>e=.returned (iv (wdv n))/\w'=w:=by
 by_cases h1:n< -719162
 ·rw[j0t (by omega)]
  unfold Cl;go_in
  go_wp2
  go_ret
  exact⟨rfl,rfl⟩
 by_cases h2:2932896<n
 ·rw[j0t (by omega)]
  unfold Cl;go_in
  go_wp2
  go_ret
  exact⟨rfl,rfl⟩
 ·rw[jug (by omega) (by omega)]
  unfold Cl;go_in
  go_wp2
  go_ret
  exact⟨ret_int (by omega),rfl⟩
theorem jct(n:Int)(w:World)(h1: -800000<=n)(h2:n<=3000000):
  Cl 123 #[iv n] w fun e w'=>e=.returned (iv ((n+719163)%7))/\w'=w:=by
 unfold Cl;go_in
 go_wp2
 go_ret
 exact⟨ret_int (by omega),rfl⟩
theorem jzx(y:Int)(w:World)(h1:1<=y)(h2:y<=10001):
  Cl 242 #[iv y] w fun e w'=>e=.returned (iv (Cal.dby y))/\w'=w:=by
 unfold Cal.dby
 unfold Cl;go_in
 go_wp2
 go_ret
 exact⟨ret_int (by omega),rfl⟩
theorem jyo(y:Int)(w:World)(h1:1<=y)(h2:y<=10001):
  Cl 156 #[iv y] w fun e w'=>e=.returned (iv (Cal.dby y))/\w'=w:=by
 unfold Cal.dby
 unfold Cl;go_in
 go_wp2
 go_ret
 exact⟨ret_int (by omega),rfl⟩
def num(y m d:Int):Int:=Cal.dby y-719162+Cal.cum y m+d-1
theorem je5(y m d:Int)(w:World)(hT:Tab w)(hv:vldB y m d=true):
  Cl 219 #[.agg #[iv y,iv m,iv d]] w fun e w'=>e=.returned (iv (num y m d))/\Bw w w':=by
 have ⟨y1,y2,m1,m2,d1,d2⟩:=jyc hv
 have hR:=fun w (h:Tab w)=>je6 y m d w h
 rw[hv]at hR
 have db:=Cal.dby_bd y y1 (by omega)
 have dm:=Cal.dim_bd y m
 clear hv
 unfold Cl;go_in
 go_wp2_with fail
 refine(hR _ (hT.alloc _)).mono ?_
 rintro e w1 ⟨rfl,hb⟩
 obtain⟨hc,hf⟩:=jaf hb
 have hz:w.heap.size+1<=w1.heap.size:=by have:=hb.size;simpa using this
 have dG:Tab w1:=(hT.alloc _).of_below hb
 have hB:Bw w w1:=(qal _ _).trans (hb.mono (by simp))
 clear hR hb hT
 go_wp2_with (go_at_call 242;refine(jzx _ _ y1 (by omega)).mono ?_;rintro e w' ⟨rfl,rfl⟩)
 go_loop [3,4] (fun t k=>∃j:Int,1<=j/\j<=m/\k=iv j/\t=iv (Cal.dby y-719162+Cal.cum y j)) (fun _ k=>(m-intOf k).toNat)
 case atStart=>exact⟨1,by omega,by omega,rfl,by rw[Cal.cum_one];go_num⟩
 case round=>
  obtain⟨j,j1,j2,rfl,rfl⟩:=hrel
  have cb:=Cal.cum_bd y j
  have cs:=Cal.cum_succ y j j1 (by omega)
  have dj:=Cal.dim_bd y j
  have CS:=hid cs
  clear cs
  by_cases hlt:j<m
  ·go_wp2_with (go_at_call 186;refine(jbs _ _ _ dG y1 y2 j1 (by omega)).mono ?_;rintro e w' ⟨rfl,rfl⟩)
   go_round
   case rel=>exact⟨j+1,by omega,by omega,rfl,by rw[CS.out];go_num⟩
   case measure=>simp[intOf];omega
  ·have e:j=m:=by omega
   subst e
   go_wp2
   go_ret
   exact⟨ret_int (by unfold num;omega),hB⟩
theorem jb1(y m d:Int)(w:World)(y1:1<=y)(y2:y<=9999)(m1:1<=m)(m2:m<=12)(d1:0<=d)(d2:d<=1000):
  Cl 121 #[.agg #[iv y,iv m,iv d]] w fun e w'=>e=.returned (iv (num y m d))/\Bw w w':=by
 have db:=Cal.dby_bd y y1 (by omega)
 unfold Cl;go_in
 go_wp2_with (go_at_call 156;refine(jyo _ _ y1 (by omega)).mono ?_;rintro e w' ⟨rfl,rfl⟩)
 go_loop [3,4] (fun t k=>∃j:Int,1<=j/\j<=m/\k=iv j/\t=iv (Cal.dby y-719162+Cal.cum y j)) (fun _ k=>(m-intOf k).toNat)
 case atStart=>exact⟨1,by omega,by omega,rfl,by rw[Cal.cum_one];go_num⟩
 case round=>
  obtain⟨j,j1,j2,rfl,rfl⟩:=hrel
  have cb:=Cal.cum_bd y j
  have cs:=Cal.cum_succ y j j1 (by omega)
  have dj:=Cal.dim_bd y j
  have CS:=hid cs
  clear cs
  by_cases hlt:j<m
  ·go_wp2_with (go_at_call 120;refine(jbd _ _ _ y1 y2).mono ?_;rintro e w' ⟨rfl,rfl⟩)
   go_round
   case rel=>exact⟨j+1,by omega,by omega,rfl,by rw[CS.out];go_num⟩
   case measure=>simp[intOf];omega
  ·have e:j=m:=by omega
   subst e
   go_wp2
   go_ret
   exact⟨ret_int (by unfold num;omega),qal _ _⟩
section
theorem jb5{x y z:Int}(h:vldB x y z=true): -719162<=num x y z/\num x y z<=2932896:=by
 have ⟨a,b,c,d,e,f⟩:=jyc h
 have h1:=Cal.dby_bd x a (by omega)
 have h2:=Cal.cum_bd x y
 have h3:=Cal.cum_succ x y c d
 have h4:=Cal.cum_mono (y:=x) (a:=y+1) (b:=13) (by omega) (by omega) (by omega)
 have h5:=Cal.cum_13 x
 have h6:=Cal.dby_succ x a
 have h7:=Cal.dby_mono (a:=x+1) (b:=10000) (by omega) (by omega)
 have h8:=Cal.dby_10000
 unfold num
 omega
end
section
abbrev S(l:List UInt8):ByteArray:=⟨l.toArray⟩
theorem jxy(l:List UInt8):(S l).size=l.length:=by simp[ByteArray.size]
theorem jf2{s:ByteArray}{a b i:Nat}(hb:b<=s.size)(hi:i<b-a):jae (s.extract a b) i=jae s (a+i):=by
 have h1:i<(s.extract a b).size:=by rw[ByteArray.size_extract];omega
 have h2:a+i<s.size:=by omega
 rw[<- jai _ _ h1, <- jai _ _ h2,ByteArray.getElem_extract]
theorem jf3{l:List UInt8}{i:Nat}{c:UInt8}(h:l[i]? =some c):jae (S l) i=(c.toNat:Int):=by
 obtain⟨hi,hc⟩:=lgs h
 have h1:i<(S l).size:=by rw[jxy];exact hi
 rw[<- jai _ _ h1]
 subst hc
 rfl
theorem jxx{s t:ByteArray}(hz:s.size=t.size)(h:∀i,i<s.size->jae s i=jae t i):s=t:=by
 apply ByteArray.ext_getElem hz
 intro i h1 h2
 have:=h i h1
 rw[<- jai _ _ h1, <- jai _ _ h2]at this
 apply UInt8.toNat_inj.mp
 omega
